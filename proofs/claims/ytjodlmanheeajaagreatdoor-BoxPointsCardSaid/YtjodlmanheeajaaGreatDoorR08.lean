import Derived.Test.YtjodlmanheeajaaGreatDoorR06
import Derived.Test.YtjodlmanheeajaaGreatDoorR02
set_option linter.unusedVariables false
set_option linter.unusedSimpArgs false
set_option maxRecDepth 100000
set_option maxHeartbeats 8000000
namespace Go.Proofs.YtjodlmanheeajaaGreatDoor
open Go.RowKit
theorem diff_row {f fx fy:Nat -> Nat} {k u v p m b t s pp mm d b':Nat} (hv:vs f k + vs fy k * v + p * 4294967296 ^ k = vs fx k * u + (m + b) * 4294967296 ^ k)
  (ht:t = p + pp) (hp:pp = fx k * u) (hs:s = m + mm) (hm:mm = fy k * v) (hd:d + s % 4294967296 + b = t % 4294967296 + b' * 4294967296) :
  vs (upd f k d) (k + 1) + vs fy (k + 1) * v + t / 4294967296 * 4294967296 ^ (k + 1) = vs fx (k + 1) * u + (s / 4294967296 + b') * 4294967296 ^ (k + 1):=by
 rw [vs_upd_succ,vs_succ,vs_succ,Nat.pow_succ]
 have h1:t % 4294967296 + t / 4294967296 * 4294967296 = t:=oM
 have h2:s % 4294967296 + s / 4294967296 * 4294967296 = s:=oM
 generalize t % 4294967296 = t0 at *
 generalize t / 4294967296 = t1 at *
 generalize s % 4294967296 = s0 at *
 generalize s / 4294967296 = s1 at *
 generalize 4294967296 ^ k = P at *
 subst hp hm
 grind
theorem diff_end {z X Y p c P:Nat} (h:z + Y + p * P = X + c * P) (hz:z < P) (hle:Y <= X) (hlt:X - Y < P):z = X - Y:=by
 have e1:z + p * P = (X - Y) + c * P:=oM
 have h1:(z + p * P) % P = z:=by rw [Nat.add_mul_mod_self_right,Nat.mod_eq_of_lt hz]
 have h2:((X - Y) + c * P) % P = X - Y:=by rw [Nat.add_mul_mod_self_right,Nat.mod_eq_of_lt hlt]
 rw [e1,h2] at h1
 exact h1.symm
theorem difference_any (g n cz cx cy u v:Nat) (f:Nat -> Nat) (m:Nat) (A A':Option Addr) (fx fy:Nat -> Nat) (w:World)
  (hr:Row w g m f) (hnm:n <= m) (hx:Wn w A n fx) (hfx:Wd fx n) (hy:Wn w A' n fy) (hfy:Wd fy n) (hA:∀ a,A = some a -> a.block ≠ g) (hA':∀ a,A' = some a -> a.block ≠ g) (hm:m <= 1099511627776)
  (hu:u < 4294967296) (hv:v < 4294967296) (hle:vs fy n * v <= vs fx n * u) (hlt:vs fx n * u - vs fy n * v < 4294967296 ^ n) :
  Calls Tryz.prog 247 #[.slice (some ⟨g,0,none⟩) n cz,.slice A n cx,.slice A' n cy,.int .u32 (u:Int),.int .u32 (v:Int)] w fun e w'=>e = .returned (.tuple #[]) /\ ∃ f',Row w' g m f' /\ Wd f' n /\
   vs f' n = vs fx n * u - vs fy n * v /\ w.grownBy w' (some g):=by
 have HX:=hid hx
 have HY:=hid hy
 have HA:=hid hA
 have HA':=hid hA'
 have HR:=hid hr
 have HLE:=hid hle
 have HLT:=hid hlt
 clear hx hy hA hA' hr hle hlt
 go_enter Tryz.func247,Tryz.ntmps247
 go_wp2
 go_loopw [10,11,12,16] (fun pv mv bv i wr=>∃ k p q b:Nat,k <= n /\ i = .int .i64 k /\ pv = .int .u64 p /\ mv = .int .u64 q /\ bv = .int .u32 b /\ p < 4294967296 /\ q < 4294967296 /\ b <= 1 /\ ∃ f',Row wr g m f' /\ Wd f' k /\
   vs f' k + vs fy k * v + p * 4294967296 ^ k = vs fx k * u + (q + b) * 4294967296 ^ k /\ w.grownBy wr (some g)) (fun _ _ _ i _=>n - (intOf i).toNat)
 case atStart=>exact ⟨0,0,0,0,oM,rfl,rfl,rfl,rfl,oM,oM,oM,f,HR.out,fun j hj=>oM,by simp [vs_zero],grown_refl _ _⟩
 case round =>
  obtain ⟨k,p,q,b,hk,rfl,rfl,rfl,rfl,hp1,hq1,hb1,f',hrow,hfw,hv1,hg⟩:=hrel
  have HV:=hid hv1
  have HG:=hid hg
  have HRO:=hid hrow
  clear hv1 hg hrow
  by_cases hlt:k < n
  ·obtain ⟨b1,o1,rfl,hbb1,hc1⟩:=(HX.out.grown HG.out (fun a ha=>by have:=HA.out a ha; simp; omega)) oM
   obtain ⟨b2,o2,rfl,hbb2,hc2⟩:=(HY.out.grown HG.out (fun a ha=>by have:=HA'.out a ha; simp; omega)) oM
   have hcell1:=hc1 k hlt
   have hcell2:=hc2 k hlt
   have hz:=HRO.out.cell (j:=k) oM
   have hzf:=HRO.out.frozen k
   clear hc1 hc2
   have hw1:=hfx k hlt
   have hw2:=hfy k hlt
   obtain ⟨pp,hpp,hppe,hppl⟩:=mul_nat (fx k) u hw1 hu
   obtain ⟨mm,hmm,hmme,hmml⟩:=mul_nat (fy k) v hw2 hv
   have HP:=hid hppe
   have HM:=hid hmme
   clear hppe hmme
   go_wp2_with fail
   refine (sub32_any ((p + pp) % 4294967296) ((q + mm) % 4294967296) b _ oM oM hb1).mono ?_
   rintro e w' ⟨d,b',rfl,hs,hs1,hkk,rfl⟩
   have HS:=hid hs
   clear hs
   go_wp2
   go_roundw
   case rel=>exact ⟨k + 1,(p + pp) / 4294967296,(q + mm) / 4294967296,b',oM,by go_num,rfl,rfl,rfl,oM,oM,hkk,upd f' k d,HRO.out.set_ oM d,wd_upd_succ hfw hs1,diff_row HV.out rfl HP.out rfl HM.out HS.out,grown_trans HG.out (grown_set _ _ _ _)⟩
   case measure=>exact mS
  ·obtain rfl:k = n:=oM
   go_wp2
   go_end0
   exact ⟨rfl,f',HRO.out,hfw,diff_end HV.out (vs_lt hfw) HLE.out HLT.out,HG.out⟩
theorem or64_shl (t c s:Nat) (hs:s < 32) (ht:t * 2 ^ s < 18446744073709551616) (hc:c < 2 ^ s) :
  bits .or .u64 (IntKind.u64.wrap ((t:Int) * 2 ^ s)) (c:Int) = ((t * 2 ^ s + c:Nat):Int):=by
 rw [IntKind.wrap_u64]
 have e1:(t:Int) * 2 ^ s % 18446744073709551616 = ((t * 2 ^ s:Nat):Int):=by
  rw [Int.emod_eq_of_lt]
  ·rw [Int.natCast_mul,Int.natCast_pow]; rfl
  ·have:(0:Int) <= ((t * 2 ^ s:Nat):Int):=oM
   rw [Int.natCast_mul,Int.natCast_pow] at this; exact this
  ·have:((t * 2 ^ s:Nat):Int) < 18446744073709551616:=oM
   rw [Int.natCast_mul,Int.natCast_pow] at this; exact this
 have e3:((2:Int) ^ s) = ((2 ^ s:Nat):Int):=by rw [Int.natCast_pow]; rfl
 have h2:(2:Nat) ^ s <= 2 ^ 32:=Nat.pow_le_pow_right oM oM
 rw [e1,bits_join .u64 64 dE (fun n h1 h2=>by rw [IntKind.wrap_u64]; omega) s _ _ oM ?_ oM oM ?_ oM]
 ·omega
 ·rw [e3,<- Int.natCast_emod,Nat.mul_mod_left]; rfl
 ·rw [e3]; omega
theorem highest_any (n c s:Nat) (A:Option Addr) (fx:Nat -> Nat) (w:World) (hx:Wn w A (n + 3) fx) (hfx:Wd fx (n + 3)) (hs:s < 32) (hn:n < 549755813888)
  (hfit:(fx (n + 2) + 1) * 2 ^ s <= 4294967296) :
  Calls Tryz.prog 246 #[.slice A (n + 3) c,.int .i64 (s:Int)] w fun e w'=>e = .returned (.int .u64 ((((fx (n + 2) * 4294967296 + fx (n + 1)) * 2 ^ s + fx n / 2 ^ (32 - s):Nat)):Int)) /\ ∃ q,w' = w.drewN q:=by
 obtain ⟨b,o,rfl,hb,hc⟩:=hx oM
 have hc2:=hc (n + 2) oM
 have hc1:=hc (n + 1) oM
 have hc0:=hc n oM
 have h2:=hfx (n + 2) oM
 have h1:=hfx (n + 1) oM
 have h0:=hfx n oM
 clear hc hx hfx
 generalize fx (n + 2) = x2 at *
 generalize fx (n + 1) = x1 at *
 generalize fx n = x0 at *
 obtain ⟨T,hT⟩:∃ T,x1 + x2 * 4294967296 = T:=⟨_,rfl⟩
 have hor:bits .or .u64 ((x2:Int) * 4294967296) (x1:Int) = (T:Int):=by rw [or64 x2 x1 h2 h1,hT]
 obtain ⟨c0,hc0e⟩:∃ c0,x0 / 2 ^ (32 - s) = c0:=⟨_,rfl⟩
 have hcl:c0 < 2 ^ s:=by rw [<- hc0e]; exact shl_carry x0 s hs h0
 have hcI:(x0:Int) / 2 ^ (32 - s) = (c0:Int):=by rw [<- hc0e,Int.natCast_ediv,Int.natCast_pow]; rfl
 have hTs:T * 2 ^ s < 18446744073709551616:=by
  have h3:T < (x2 + 1) * 4294967296:=oM
  have h4:T * 2 ^ s < (x2 + 1) * 4294967296 * 2 ^ s:=Nat.mul_lt_mul_of_pos_right h3 (Nat.pow_pos oM)
  have h5:(x2 + 1) * 4294967296 * 2 ^ s = (x2 + 1) * 2 ^ s * 4294967296:=by grind
  omega
 have hor2:=or64_shl T c0 s hs hTs hcl
 obtain ⟨r,hr⟩:∃ r,T * 2 ^ s + c0 = r:=⟨_,rfl⟩
 have hres:(x2 * 4294967296 + x1) * 2 ^ s + c0 = r:=by rw [<- hr,<- hT,Nat.add_comm x1]
 rw [hc0e,hres]
 rw [hr] at hor2
 have hTl:T < 18446744073709551616:=oM
 clear hres hr hT hc0e hTs hcl hfit
 go_enter Tryz.func246,Tryz.ntmps246
 go_wp2
 go_quiet (fail)
 go_wp2
 go_quiet (fail)
 go_wp2
 go_ret
 exact ⟨rfl,by simp only [World.drewN_drewN]; exact ⟨_,rfl⟩⟩
structure Good (A B u0 v0 u1 v1:Nat) (even:Bool):Prop where
 lu0:u0 < 4294967296
 lv0:v0 < 4294967296
 lu1:u1 < 4294967296
 lv1:v1 < 4294967296
 fine:v0 = 0 ∨ (u0 <= v0 /\ u1 <= v1 /\ ∃ p c,v1 <= c /\ c + (v0 + v1) <= p /\
  (if even then p + v0 * B = u0 * A /\ c + u1 * A = v1 * B /\ u0 * v1 = v0 * u1 + 1 else p + u0 * A = v0 * B /\ c + v1 * B = u1 * A /\ v0 * u1 = u0 * v1 + 1))
structure Fore (A B a b u1 u2 v1 v2:Nat) (e:Bool):Prop where
 le:b <= a
 pos:1 <= v2
 mono:v1 <= v2
 sa:a * v2 + b * v1 = A
 sb:a * u2 + b * u1 = B
 small:(v1 = 0 /\ u1 = 1 /\ u2 = 0) ∨ u1 <= v1
 small2:u2 <= v2
 eqs:if e then a + u1 * A = v1 * B /\ b + v2 * B = u2 * A /\ v1 * u2 = u1 * v2 + 1 else a + v1 * B = u1 * A /\ b + u2 * A = v2 * B /\ u1 * v2 = v1 * u2 + 1
theorem Fore.start {A B:Nat} (h:B <= A):Fore A B A B 1 0 0 1 false :=
 ⟨h,oM,oM,oM,oM,.inl ⟨rfl,rfl,rfl⟩,oM,sP⟩
theorem Fore.bound {A B a b u1 u2 v1 v2 q r:Nat} {e:Bool} (h:Fore A B a b u1 u2 v1 v2 e) (hb:1 <= b) (hq:b * q + r = a):v1 + q * v2 <= A /\ u1 + q * u2 <= B:=by
 have h1:=h.sa
 have h2:=h.sb
 have e1:b * (v1 + q * v2) + r * v2 = A:=by rw [<- h1,<- hq]; grind
 have e2:b * (u1 + q * u2) + r * u2 = B:=by rw [<- h2,<- hq]; grind
 have l1:1 * (v1 + q * v2) <= b * (v1 + q * v2):=Nat.mul_le_mul_right _ hb
 have l2:1 * (u1 + q * u2) <= b * (u1 + q * u2):=Nat.mul_le_mul_right _ hb
 omega
theorem Fore.step {A B a b u1 u2 v1 v2 q r:Nat} {e:Bool} (h:Fore A B a b u1 u2 v1 v2 e) (hA:A < 18446744073709551616) (c1:v2 <= b) (c2:b + (v1 + v2) <= a) (hq:b * q + r = a) (hr:r < b) :
  Fore A B b r u2 (u1 + q * u2) v2 (v1 + q * v2) (!e) /\ Good A B u1 v1 u2 v2 (!e):=by
 obtain ⟨hle,hpos,hmono,hsa,hsb,hsm,hsm2,heq⟩:=h
 have hq1:1 <= q:=by
  rcases Nat.eq_zero_or_pos q with h0 | h0
  ·subst h0; omega
  ·exact h0
 have hqv:v2 <= q * v2:=by have:=Nat.mul_le_mul_right v2 hq1; omega
 have hqu:q * u2 <= q * v2:=Nat.mul_le_mul_left _ hsm2
 constructor
 ·refine ⟨oM,oM,oM,?_,?_,.inr hsm2,?_,?_⟩
  ·rw [<- hsa,<- hq]; grind
  ·rw [<- hsb,<- hq]; grind
  ·rcases hsm with ⟨h1,h2,h3⟩ | h1
   ·subst h1 h2 h3; omega
   ·omega
  ·cases e
   ·simp only [Bool.not_false,if_true,Bool.false_eq_true,if_false] at heq ⊢
    obtain ⟨e1,e2,e3⟩:=heq
    refine ⟨e2,?_,?_⟩
    ·have e4:r + b * q + v1 * B = u1 * A:=oM
     have e5:b * q + u2 * A * q = v2 * B * q:=by rw [<- Nat.add_mul,e2]
     grind
    ·grind
   ·simp only [Bool.not_true,if_true,Bool.false_eq_true,if_false] at heq ⊢
    obtain ⟨e1,e2,e3⟩:=heq
    refine ⟨e2,?_,?_⟩
    ·have e4:r + b * q + u1 * A = v1 * B:=oM
     have e5:b * q + v2 * B * q = u2 * A * q:=by rw [<- Nat.add_mul,e2]
     grind
    ·grind
 ·have hv2:v2 < 4294967296:=by
   rcases Nat.lt_or_ge v2 4294967296 with h1 | h1
   ·exact h1
   ·have:=Nat.mul_le_mul (show 4294967296 <= a by omega) h1
    omega
  refine ⟨by rcases hsm with ⟨_,h2,_⟩ | h1 <;> omega,oM,oM,hv2,?_⟩
  rcases hsm with ⟨h1,_,_⟩ | h1
  ·exact .inl h1
  ·refine .inr ⟨h1,hsm2,a,b,c1,c2,?_⟩
   cases e
   ·simpa using heq
   ·simpa using heq
def ForeRel (A B:Nat) (a b u0 u1 u2 v0 v1 v2 e:Value):Prop :=
 ∃ (a' b' u0' u1' u2' v0' v1' v2':Nat) (e':Bool),a = .int .u64 a' /\ b = .int .u64 b' /\ u0 = .int .u64 u0' /\ u1 = .int .u64 u1' /\ u2 = .int .u64 u2' /\ v0 = .int .u64 v0' /\ v1 = .int .u64 v1' /\ v2 = .int .u64 v2' /\ e = .bool e' /\
  Fore A B a' b' u1' u2' v1' v2' e' /\ Good A B u0' v0' u1' v1' e'
theorem hi64_pure {T x0 low P q p:Nat} (hP:0 < P) (hq:0 < q) (hp:p * q = 4294967296) (hl:low < P):T * p + x0 / q = ((T * 4294967296 + x0) * P + low) / (P * q):=by
 rw [<- Nat.div_div_eq_div_mul]
 have e0:((T * 4294967296 + x0) * P + low) / P = T * 4294967296 + x0:=by
  rw [Nat.mul_comm,Nat.mul_add_div hP,Nat.div_eq_of_lt hl,Nat.add_zero]
 rw [e0]
 have e:T * 4294967296 + x0 = q * (T * p) + x0:=by rw [<- hp]; grind
 rw [e]
 exact (Nat.mul_add_div hq _ _).symm
theorem hi64 {f:Nat -> Nat} {n s:Nat} (hf:Wd f (n + 3)) (hs:s < 32):(f (n + 2) * 4294967296 + f (n + 1)) * 2 ^ s + f n / 2 ^ (32 - s) = vs f (n + 3) / (4294967296 ^ n * 2 ^ (32 - s)):=by
 rw [vs_top3]
 exact hi64_pure (Nat.pow_pos oM) (Nat.pow_pos oM) (pow32 s oM) (vs_lt (hf.mono oM))
theorem below_dN {B:Nat} {a w:World} (h:Below B a w) (n:Nat):Below B a (w.drewN n):=⟨h.os,h.tape,h.output,h.size,h.block⟩
theorem fore_below (w:World) (o:Obj) (q:Nat) (a b c d e:Value) :
  Below w.heap.size w ((((((((w.alloc o).drewN q).setCell ⟨w.heap.size,0,none⟩ a).setCell ⟨w.heap.size,1,none⟩ b).setCell ⟨w.heap.size,2,none⟩ c).setCell ⟨w.heap.size,3,none⟩ d).setCell ⟨w.heap.size,4,none⟩ e)) :=
 ((((((below_dN (below_alloc w o) q).setCell lR a).setCell lR b).setCell lR c).setCell lR d).setCell lR e)
theorem foresee_any (n cx cy:Nat) (A A':Option Addr) (fx fy:Nat -> Nat) (w:World) (hx:Wn w A (n + 3) fx) (hfx:Wd fx (n + 3)) (hy:Wn w A' (n + 3) fy) (hfy:Wd fy (n + 3))
  (htop:fx (n + 2) ≠ 0) (hle:vs fy (n + 3) <= vs fx (n + 3)) (hn:n < 549755813888) :
  Calls Tryz.prog 243 #[.slice A (n + 3) cx,.slice A' (n + 3) cy] w fun e w'=>∃ (k u0 v0 u1 v1:Nat) (ev:Bool),e = .returned (.agg #[.int .u32 (u0:Int),.int .u32 (u1:Int),.int .u32 (v0:Int),.int .u32 (v1:Int),.bool ev]) /\
   0 < k /\ Good (vs fx (n + 3) / k) (vs fy (n + 3) / k) u0 v0 u1 v1 ev /\ Below w.heap.size w w':=by
 obtain ⟨b,o,rfl,hb,hc⟩:=hx oM
 have hcell:=hc (n + 2) oM
 have HX:=hid hx
 have HY:=hid hy
 have h2:=hfx (n + 2) oM
 have hbt:bl (fx (n + 2)) <= 32:=bl_le oM
 have hbp:1 <= bl (fx (n + 2)):=by simp [bl,htop]
 have hfit:(fx (n + 2) + 1) * 2 ^ (32 - bl (fx (n + 2))) <= 4294967296:=by
  have h3:=Nat.mul_le_mul_right (2 ^ (32 - bl (fx (n + 2)))) (show fx (n + 2) + 1 <= 2 ^ bl (fx (n + 2)) from lt_bl _)
  rw [pow32 _ hbt] at h3
  exact h3
 have hty:fy (n + 2) <= fx (n + 2):=by
  rcases Nat.lt_or_ge (fx (n + 2)) (fy (n + 2)) with h | h
  ·have:=vs_lt_of hfx (show n + 2 < n + 3 by omega) h (fun j h1 h2=>oM)
   omega
  ·exact h
 have hfity:(fy (n + 2) + 1) * 2 ^ (32 - bl (fx (n + 2))) <= 4294967296:=Nat.le_trans (Nat.mul_le_mul_right _ oM) hfit
 have hcx:=fun W (h:Wn W (some ⟨b,o,none⟩) (n + 3) fx)=>highest_any n cx (32 - bl (fx (n + 2))) (some ⟨b,o,none⟩) fx W h hfx oM hn hfit
 have hcy:=fun W (h:Wn W A' (n + 3) fy)=>highest_any n cy (32 - bl (fx (n + 2))) A' fy W h hfy oM hn hfity
 rw [hi64 hfx oM] at hcx
 rw [hi64 hfy oM] at hcy
 have hk:0 < 4294967296 ^ n * 2 ^ (32 - (32 - bl (fx (n + 2)))):=Nat.mul_pos (Nat.pow_pos oM) (Nat.pow_pos oM)
 have hAlt:vs fx (n + 3) / (4294967296 ^ n * 2 ^ (32 - (32 - bl (fx (n + 2))))) < 18446744073709551616:=by
  rw [<- hi64 hfx oM]
  have h3:=shl_carry (fx n) (32 - bl (fx (n + 2))) oM (hfx n oM)
  have h4:=hfx (n + 1) oM
  generalize 2 ^ (32 - bl (fx (n + 2))) = p at *
  generalize fx n / 2 ^ (32 - (32 - bl (fx (n + 2)))) = c at *
  have h5:(fx (n + 2) * 4294967296 + fx (n + 1) + 1) * p <= (fx (n + 2) + 1) * 4294967296 * p:=Nat.mul_le_mul_right _ oM
  have h6:(fx (n + 2) + 1) * 4294967296 * p = (fx (n + 2) + 1) * p * 4294967296:=by grind
  rw [Nat.add_mul _ 1,Nat.one_mul] at h5
  omega
 have hBA:=Nat.div_le_div_right (c:=4294967296 ^ n * 2 ^ (32 - (32 - bl (fx (n + 2))))) hle
 generalize 4294967296 ^ n * 2 ^ (32 - (32 - bl (fx (n + 2)))) = k at *
 have fin:∀ (e:Ending) (W':World),(∃ (u0 v0 u1 v1:Nat) (ev:Bool),e = .returned (.agg #[.int .u32 (u0:Int),.int .u32 (u1:Int),.int .u32 (v0:Int),.int .u32 (v1:Int),.bool ev]) /\ Good (vs fx (n + 3) / k) (vs fy (n + 3) / k) u0 v0 u1 v1 ev /\ Below w.heap.size w W') ->
   ∃ (k u0 v0 u1 v1:Nat) (ev:Bool),e = .returned (.agg #[.int .u32 (u0:Int),.int .u32 (u1:Int),.int .u32 (v0:Int),.int .u32 (v1:Int),.bool ev]) /\ 0 < k /\ Good (vs fx (n + 3) / k) (vs fy (n + 3) / k) u0 v0 u1 v1 ev /\ Below w.heap.size w W' :=
  fun e W' ⟨u0,v0,u1,v1,ev,h1,h2,h3⟩=>⟨k,u0,v0,u1,v1,ev,h1,hk,h2,h3⟩
 refine Calls.mono ?_ fin
 clear fin hk
 generalize vs fx (n + 3) / k = AA at *
 generalize vs fy (n + 3) / k = BB at *
 have HCX:=hid hcx
 have HCY:=hid hcy
 clear hx hy hc hcx hcy hfit hfity hty hle hfx hfy htop
 go_enter Tryz.func243,Tryz.ntmps243
 go_wp2_with fail
 refine (lz32_any _ _ h2).mono ?_
 rintro e w1 ⟨rfl,rfl⟩
 generalize 32 - bl (fx (n + 2)) = s at *
 go_wp2_with fail
 refine (HCX.out _ (HX.out.below (below_alloc w _))).mono ?_
 rintro e w1 ⟨rfl,q,rfl⟩
 go_wp2_with fail
 refine (HCY.out _ (HY.out.below ((below_alloc w _).trans ((below_drewN _ q).mono sP)))).mono ?_
 rintro e w1 ⟨rfl,q2,rfl⟩
 go_wp2_with fail
 go_loopw [6,7,8,9,10,11,12,13,14] (fun a b u0 u1 u2 v0 v1 v2 ev wr=>ForeRel AA BB a b u0 u1 u2 v0 v1 v2 ev /\ ∃ q,wr = (w.alloc (.cells #[.int .u32 0,.int .u32 0,.int .u32 0,.int .u32 0,.bool false] 254)).drewN q) (fun _ b _ _ _ _ _ _ _ _=>(intOf b).toNat)
 case atStart=>exact ⟨⟨AA,BB,0,1,0,0,0,1,false,rfl,rfl,rfl,rfl,rfl,rfl,rfl,rfl,rfl,Fore.start hBA,⟨oM,oM,oM,oM,.inl rfl⟩⟩,_,rfl⟩
 case round =>
  obtain ⟨⟨a,b2,u0,u1,u2,v0,v1,v2,ev,rfl,rfl,rfl,rfl,rfl,rfl,rfl,rfl,rfl,hf,hgd⟩,qq,rfl⟩:=hrel
  have HF:=hid hf
  have HGD:=hid hgd
  have f1:=hf.le
  have f2:=hf.pos
  have f3:=hf.mono
  have hblt:b2 <= AA:=by
   have:=hf.sa
   have h3:b2 * 1 <= a * v2:=Nat.mul_le_mul f1 f2
   omega
  have hal:a <= AA:=by
   have:=hf.sa
   have h3:a * 1 <= a * v2:=Nat.mul_le_mul_left _ f2
   omega
  clear hf hgd
  by_cases c1:v2 <= b2
  ·have hvv:v1 + v2 <= AA:=by
    have:=HF.out.sa
    have h3:1 * v2 <= a * v2:=Nat.mul_le_mul_right _ oM
    have h4:1 * v1 <= b2 * v1:=Nat.mul_le_mul_right _ oM
    omega
   by_cases c2:b2 + (v1 + v2) <= a
   ·have c2':v1 + v2 <= a - b2:=oM
    obtain ⟨t,ht⟩:∃ t,a / b2 = t:=⟨_,rfl⟩
    obtain ⟨r,hr⟩:∃ r,a % b2 = r:=⟨_,rfl⟩
    have hdm:=Nat.div_add_mod a b2
    have hrl:=Nat.mod_lt a (show b2 > 0 by omega)
    rw [ht,hr] at hdm
    rw [hr] at hrl
    have hbd:=HF.out.bound oM hdm
    have hst:=HF.out.step hAlt c1 c2 hdm hrl
    have htl:t <= a:=by rw [<- ht]; exact Nat.div_le_self _ _
    have ht1:(a:Int).tdiv (b2:Int) = (t:Int):=by rw [Int.tdiv_eq_ediv_of_nonneg oM,<- ht]; rfl
    have ht2:(a:Int) / (b2:Int) = (t:Int):=by rw [<- ht]; rfl
    have ht3:(a:Int).tmod (b2:Int) = (r:Int):=by rw [Int.tmod_eq_emod_of_nonneg oM,<- hr]; rfl
    have ht4:(a:Int) % (b2:Int) = (r:Int):=by rw [<- hr]; rfl
    have hb0:((b2:Int) == 0) = false:=sO
    obtain ⟨p1,hp1⟩:∃ p1,t * u2 = p1:=⟨_,rfl⟩
    obtain ⟨p2,hp2⟩:∃ p2,t * v2 = p2:=⟨_,rfl⟩
    have hm1:(t:Int) * (u2:Int) = (p1:Int):=by rw [<- hp1]; rfl
    have hm2:(t:Int) * (v2:Int) = (p2:Int):=by rw [<- hp2]; rfl
    rw [hp1,hp2] at hbd hst
    have HST:=hid hst
    have hbd1:=hbd.1
    have hbd2:=hbd.2
    clear ht hr hdm hst hbd hp1 hp2
    go_wp2
    go_quiet (fail)
    go_wp2
    go_roundw
    case rel=>exact ⟨⟨b2,r,u1,u2,u1 + p1,v1,v2,v1 + p2,!ev,by go_num,by go_num,by go_num,by go_num,by go_num,by go_num,by go_num,by go_num,rfl,HST.out.1,HST.out.2⟩,_,rfl⟩
    case measure=>exact mS
   ·have c2':¬ v1 + v2 <= a - b2:=oM
    have hg1:=HGD.out.lu0
    have hg2:=HGD.out.lu1
    have hg3:=HGD.out.lv0
    have hg4:=HGD.out.lv1
    go_wp2
    exact bodyPost_ret (v:=.agg #[.int .u32 (u0:Int),.int .u32 (u1:Int),.int .u32 (v0:Int),.int .u32 (v1:Int),.bool ev]) (by simp [results,Tryz.results243,go_sem]) rfl ⟨u0,v0,u1,v1,ev,rfl,HGD.out,fore_below _ _ _ _ _ _ _ _⟩
  ·have hg1:=HGD.out.lu0
   have hg2:=HGD.out.lu1
   have hg3:=HGD.out.lv0
   have hg4:=HGD.out.lv1
   go_wp2
   exact bodyPost_ret (v:=.agg #[.int .u32 (u0:Int),.int .u32 (u1:Int),.int .u32 (v0:Int),.int .u32 (v1:Int),.bool ev]) (by simp [results,Tryz.results243,go_sem]) rfl ⟨u0,v0,u1,v1,ev,rfl,HGD.out,fore_below _ _ _ _ _ _ _ _⟩
end Go.Proofs.YtjodlmanheeajaaGreatDoor
