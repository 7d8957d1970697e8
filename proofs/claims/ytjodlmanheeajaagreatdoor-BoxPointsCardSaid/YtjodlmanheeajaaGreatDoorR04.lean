import Derived.Lib.TrailingZeros
import Derived.Test.YtjodlmanheeajaaGreatDoorR01
import Derived.Test.YtjodlmanheeajaaGreatDoorR02
import Derived.Test.YtjodlmanheeajaaGreatDoorR03
set_option linter.unusedVariables false
set_option linter.unusedSimpArgs false
set_option maxRecDepth 100000
set_option maxHeartbeats 8000000
namespace Go.Proofs.YtjodlmanheeajaaGreatDoor
open Go.RowKit
def Tab (w:World):Prop:=3 < w.heap.size /\ ∀ k,k < 32 -> w.cell? ⟨3,k,none⟩ = some (.int .u8 ((Lib.deBruijn32tab.getD k 0:Nat):Int))
theorem Tab.below {w w':World} (h:Tab w) (hb:Below w.heap.size w w'):Tab w' :=
 ⟨lL h.1 hb.size,fun k hk=>(hb.cell (p:=⟨3,k,none⟩) h.1).trans (h.2 k hk)⟩
theorem Tab.drewN {w:World} (h:Tab w) (q:Nat):Tab (w.drewN q):=h
theorem tz32_key (x a:Nat) (hx:x < 4294967296) (hx0:x ≠ 0) (hlow:x &&& (4294967296 - x) = a) :
  bits BinOp.and IntKind.u32 (x:Int) (-(x:Int) % 4294967296) * 125613361 % 4294967296 / 134217728 = ((a * 125613361 % 4294967296 / 134217728:Nat):Int):=by
 have e1:-(x:Int) % 4294967296 = ((4294967296 - x:Nat):Int):=oM
 rw [e1,u32_and_nat x _ hx oM,hlow]
 omega
theorem tz32_core (x k idx:Nat) (w:World) (h0:((x:Int) == 0) = false)
  (key:bits BinOp.and IntKind.u32 (x:Int) (-(x:Int) % 4294967296) * 125613361 % 4294967296 / 134217728 = (idx:Int))
  (hi:idx < 32) (hk:k < 32) (hcell:w.cell? ⟨3,idx,none⟩ = some (.int .u8 (k:Int))) :
  Calls Tryz.prog 227 #[.int .u32 (x:Int)] w fun e w'=>e = .returned (.int .i64 (k:Int)) /\ w = w':=by
 go_enter Tryz.func227,Tryz.ntmps227
 go_wp2_with (simp only [key])
 go_ret
 exact ⟨rfl,rfl⟩
theorem tz32_any (x:Nat) (w:World) (hx0:x ≠ 0) (hx:x < 4294967296) (hT:Tab w) :
  Calls Tryz.prog 227 #[.int .u32 (x:Int)] w fun e w'=>e = .returned (.int .i64 ((Lib.ctz 32 x:Nat):Int)) /\ w = w':=by
 obtain ⟨hlow,hk⟩:=Lib.lowest_bit 32 x hx0 hx
 obtain ⟨hi,htab⟩:=Lib.deBruijn32_at _ hk
 have hcell:=hT.2 _ hi
 rw [htab] at hcell
 exact tz32_core x _ _ w sO (tz32_key x _ hx hx0 hlow) hi hk hcell
def bl (x:Nat):Nat:=if x = 0 then 0 else Nat.log2 x + 1
theorem bl_spec {x n:Nat} (h:x ≠ 0):bl x = n + 1 ↔ 2 ^ n <= x /\ x < 2 ^ (n + 1):=by
 unfold bl
 rw [if_neg h]
 constructor
 ·intro e
  have:x.log2 = n:=oM
  subst this
  exact ⟨Nat.log2_self_le h,Nat.lt_log2_self⟩
 ·rintro ⟨h1,h2⟩
  have h3:n <= x.log2:=(Nat.le_log2 h).2 h1
  have h4:x.log2 < n + 1:=(Nat.log2_lt h).2 h2
  omega
theorem lt_bl (x:Nat):x < 2 ^ bl x:=by
 by_cases h:x = 0
 ·subst h; simp [bl]
 ·have:=(bl_spec (n:=x.log2) h).1 (by simp [bl,h])
  rw [show bl x = x.log2 + 1 by simp [bl,h]]
  exact this.2
theorem bl_le {x n:Nat} (h:x < 2 ^ n):bl x <= n:=by
 by_cases h0:x = 0
 ·subst h0; simp [bl]
 ·have:=(Nat.log2_lt h0).2 h
  simp [bl,h0]; omega
theorem le_of_bl {x:Nat} (h:0 < bl x):2 ^ (bl x - 1) <= x:=by
 have h0:x ≠ 0:=by rintro rfl; simp [bl] at h
 have:=(bl_spec (n:=x.log2) h0).1 (by simp [bl,h0])
 rw [show bl x - 1 = x.log2 by simp [bl,h0]]
 exact this.1
theorem bl_half {x:Nat} (h:x ≠ 0):bl x = 1 + bl (x / 2):=by
 by_cases h1:x / 2 = 0
 ·have:x = 1:=oM
  subst this
  rfl
 ·have h2:=(bl_spec (n:=(x / 2).log2) h1).1 (by simp [bl,h1])
  have e:bl (x / 2) = (x / 2).log2 + 1:=by simp [bl,h1]
  rw [e,Nat.add_comm]
  refine (bl_spec h).2 ?_
  generalize (x / 2).log2 = n at *
  rw [Nat.pow_succ] at h2
  rw [Nat.pow_succ,Nat.pow_succ]
  omega
theorem bitLenAux_bl:∀ (f x:Nat),x < 2 ^ f -> Lib.bitLenAux f x = bl x
 | 0,x,h=>by
  have:x = 0:=by simpa using h
  subst this; rfl
 | f + 1,x,h=>by
  unfold Lib.bitLenAux
  by_cases h0:x = 0
  ·subst h0; rfl
  ·rw [if_neg h0,bl_half h0,bitLenAux_bl f (x / 2) (by rw [Nat.pow_succ] at h; omega)]
theorem len32_any (x:Nat) (w:World) (hx:x < 4294967296) :
  Calls Tryz.prog 183 #[.int .u32 (x:Int)] w fun e w'=>e = .returned (.int .i64 ((bl x:Nat):Int)) /\ w = w' :=
 (Tryz.bits_Len32 (x:Int) w oM oM).mono fun e w' ⟨h1,h2⟩=>⟨by rw [h1,Int.toNat_natCast,Lib.bitLen,bitLenAux_bl 64 x oM],h2.symm⟩
theorem len64_any (x:Nat) (w:World) (hx:x < 18446744073709551616) :
  Calls Tryz.prog 151 #[.int .u64 (x:Int)] w fun e w'=>e = .returned (.int .i64 ((bl x:Nat):Int)) /\ w = w' :=
 (Tryz.bits_Len64 (x:Int) w oM oM).mono fun e w' ⟨h1,h2⟩=>⟨by rw [h1,Int.toNat_natCast,Lib.bitLen,bitLenAux_bl 64 x oM],h2.symm⟩
theorem lz32_any (x:Nat) (w:World) (hx:x < 4294967296) :
  Calls Tryz.prog 218 #[.int .u32 (x:Int)] w fun e w'=>e = .returned (.int .i64 ((32 - bl x:Nat):Int)) /\ w = w' :=
 (Tryz.bits_LeadingZeros32 (x:Int) w oM oM).mono fun e w' ⟨h1,h2⟩=>⟨by
  have hb:bl x <= 32:=bl_le oM
  rw [h1,Int.toNat_natCast,Lib.bitLen,bitLenAux_bl 64 x oM]
  congr 2
  omega,h2.symm⟩
theorem bl_words {x:Nat} (h:0 < wl x):bl x = (wl x - 1) * 32 + bl (dg x (wl x - 1)):=by
 have h1:=pow_le_of_wl h
 have h2:=lt_wl x
 have h3:=top_dg h
 obtain ⟨m,hm⟩:∃ m,wl x = m + 1:=⟨wl x - 1,oM⟩
 rw [hm] at h1 h2 h3 ⊢
 simp only [Nat.add_sub_cancel] at h1 h3 ⊢
 have hp:0 < 4294967296 ^ m:=Nat.pow_pos oM
 have hd:dg x m = x / 4294967296 ^ m:=by
  unfold dg
  rw [Nat.mod_eq_of_lt]
  rw [Nat.pow_succ] at h2
  exact Nat.div_lt_of_lt_mul h2
 rw [hd] at h3 ⊢
 have h4:=(bl_spec (n:=(x / 4294967296 ^ m).log2) h3).1 (by simp [bl,h3])
 have e:bl (x / 4294967296 ^ m) = (x / 4294967296 ^ m).log2 + 1:=by simp [bl,h3]
 have hx0:x ≠ 0:=by rintro rfl; simp at h3
 rw [e,<- Nat.add_assoc]
 refine (bl_spec hx0).2 ?_
 generalize (x / 4294967296 ^ m).log2 = n at *
 have e3:(2:Nat) ^ (m * 32 + n) = 4294967296 ^ m * 2 ^ n:=by rw [Nat.pow_add,Nat.mul_comm m,Nat.pow_mul]
 have e4:(2:Nat) ^ (m * 32 + n + 1) = 4294967296 ^ m * 2 ^ (n + 1):=by rw [Nat.add_assoc,Nat.pow_add,Nat.mul_comm m,Nat.pow_mul]
 rw [e3,e4]
 constructor
 ·have:=(Nat.le_div_iff_mul_le hp).1 h4.1
  rw [Nat.mul_comm]; exact this
 ·have:=(Nat.div_lt_iff_lt_mul hp).1 h4.2
  rw [Nat.mul_comm]; exact this
theorem length_any (v:Value) (x:Nat) (w:World) (h:IsNat w v x) (hn:wl x <= 1099511627776) :
  Calls Tryz.prog 149 #[v] w fun e w'=>e = .returned (.int .i64 ((bl x:Nat):Int)) /\ ∃ q,w' = w.drewN q:=by
 rcases Nat.eq_zero_or_pos (wl x) with h0 | h0
 ·obtain rfl:=wl_eq_zero.1 h0
  obtain ⟨A,c,rfl,hc,hw⟩:=h
  rw [wl_zero] at *
  exact (length0 w A c).mono fun e w' ⟨h1,h2⟩=>⟨h1,0,h2.symm⟩
 ·have hb:=bl_words h0
  have hd:=dg_lt x (wl x - 1)
  obtain ⟨A,c,rfl,hc,hw⟩:=h
  obtain ⟨b,off,rfl,hlt,hcell⟩:=hw h0
  have hcell:=hcell (wl x - 1) oM
  have HB:=hid hb
  clear hb hw
  obtain ⟨m,hm⟩:∃ m,wl x = m + 1:=⟨wl x - 1,oM⟩
  rw [hm] at hcell hc HB hn hd ⊢
  simp only [Nat.add_sub_cancel] at hcell HB hd
  have hl:(((m + 1:Nat):Int) == 0) = false:=sO
  clear hm h0
  go_enter Tryz.func149,Tryz.ntmps149
  go_wp2_with fail
  refine (len32_any _ _ hd).mono ?_
  rintro e w' ⟨rfl,rfl⟩
  have hbl:bl (dg x m) <= 32:=bl_le oM
  go_wp2
  go_ret
  exact ⟨by rw [HB.out]; rfl,0,rfl⟩
theorem twos_exists {x:Nat} (h:x ≠ 0):∃ i,i < wl x /\ dg x i ≠ 0 /\ ∀ j,j < i -> dg x j = 0:=by
 have:∀ n,(∃ j,j < n /\ dg x j ≠ 0) -> ∃ i,i < n /\ dg x i ≠ 0 /\ ∀ j,j < i -> dg x j = 0:=by
  intro n
  induction n with
  | zero=>rintro ⟨j,hj,_⟩; omega
  | succ n ih =>
   rintro ⟨j,hj,hne⟩
   by_cases hex:∃ j,j < n /\ dg x j ≠ 0
   ·obtain ⟨i,h1,h2,h3⟩:=ih hex
    exact ⟨i,oM,h2,h3⟩
   ·have hz:∀ j,j < n -> dg x j = 0:=fun j hj=>Nat.eq_zero_of_not_pos fun hp=>hex ⟨j,hj,oM⟩
    have:j = n:=by
     rcases Nat.lt_or_ge j n with h1 | h1
     ·exact absurd (hz j h1) hne
     ·omega
    subst this
    exact ⟨j,oM,hne,hz⟩
 have hp:0 < wl x:=Nat.pos_of_ne_zero fun e=>h (wl_eq_zero.1 e)
 exact this _ ⟨wl x - 1,oM,top_dg hp⟩
def Twos (x k:Nat):Prop:=∃ m,x = 2 ^ k * (2 * m + 1)
theorem twos_words {x i t:Nat} (hz:∀ j,j < i -> dg x j = 0) (hi:i < wl x) (ht:Twos (dg x i) t) (h32:t < 32):Twos x (i * 32 + t):=by
 obtain ⟨m,hm⟩:=ht
 have h1:x = vs (dg x) (wl x):=(vs_dg_wl x).symm
 obtain ⟨r,hr⟩:∃ r,wl x = i + (1 + r):=⟨wl x - i - 1,oM⟩
 rw [hr,vs_low_zero hz,vs_add (fun j=>dg x (i + j)) 1 r,vs_one,Nat.add_zero,hm] at h1
 refine ⟨m + 2 ^ (31 - t) * vs (fun j=>dg x (i + (1 + j))) r,?_⟩
 have e1:(2:Nat) ^ (i * 32 + t) = 4294967296 ^ i * 2 ^ t:=by rw [Nat.pow_add,Nat.mul_comm i,Nat.pow_mul]
 have e2:(4294967296:Nat) ^ 1 = 2 ^ t * (2 ^ (31 - t) * 2):=by rw [<- Nat.pow_succ,<- Nat.pow_add,show t + (31 - t + 1) = 32 by omega]
 rw [e1]
 rw [e2] at h1
 generalize vs (fun j=>dg x (i + (1 + j))) r = V at *
 generalize 2 ^ t = p at *
 generalize 2 ^ (31 - t) = q at *
 generalize 4294967296 ^ i = P at *
 rw [h1]
 grind
theorem twos_unique {x a b:Nat} (ha:Twos x a) (hb:Twos x b):a = b:=by
 obtain ⟨m,hm⟩:=ha
 obtain ⟨k,hk⟩:=hb
 have key:∀ {a b m k:Nat},a < b -> 2 ^ a * (2 * m + 1) = 2 ^ b * (2 * k + 1) -> False:=by
  intro a b m k hlt he
  obtain ⟨d,rfl⟩:∃ d,b = a + (d + 1):=⟨b - a - 1,oM⟩
  rw [Nat.pow_add,Nat.mul_assoc] at he
  have:=Nat.eq_of_mul_eq_mul_left (Nat.pow_pos oM) he
  rw [Nat.pow_succ,Nat.mul_comm (2 ^ d) 2,Nat.mul_assoc] at this
  omega
 rcases Nat.lt_trichotomy a b with h | h | h
 ·exact (key h (hm.symm.trans hk)).elim
 ·exact h
 ·exact (key h (hk.symm.trans hm)).elim
theorem ctz_twos {x:Nat} (h:x ≠ 0) (h2:x < 4294967296):Twos x (Lib.ctz 32 x) /\ Lib.ctz 32 x < 32:=by
 obtain ⟨m,hm,hk⟩:=Lib.ctzFrom_spec 32 x oM (by simpa using h2)
 have e:Lib.ctz 32 x = Lib.ctzFrom 32 x:=by simp [Lib.ctz,h]
 rw [e]
 exact ⟨⟨m,hm⟩,hk⟩
theorem twos_any (v:Value) (x:Nat) (w:World) (h:IsNat w v x) (hx:x ≠ 0) (hn:wl x <= 1099511627776) (hT:Tab w) :
  Calls Tryz.prog 213 #[v] w fun e w'=>∃ t:Nat,e = .returned (.int .i64 (t:Int)) /\ Twos x t /\ t < wl x * 32 /\ w = w':=by
 obtain ⟨i0,hi0,hne,hz⟩:=twos_exists hx
 obtain ⟨A,c,rfl,hc,hw⟩:=h
 obtain ⟨b,off,rfl,hlt,hcell⟩:=hw oM
 have HC:=hid hcell
 have HZ:=hid hz
 have HT:=hid hT
 have hT2:=ctz_twos hne (dg_lt _ _)
 have HTW:=hid (twos_words hz hi0 hT2.1 hT2.2)
 clear hw hcell hz hT
 have hT3:=hT2.2
 clear hT2
 go_enter Tryz.func213,Tryz.ntmps213
 go_wp2_with fail
 go_loop [3] (fun i=>∃ k:Nat,k <= i0 /\ i = .int .i64 k) (fun i=>i0 - (intOf i).toNat)
 case atStart=>exact ⟨0,oM,rfl⟩
 case round =>
  obtain ⟨k,hk,rfl⟩:=hrel
  have hcell:=HC.out k oM
  by_cases hlt2:k < i0
  ·rw [HZ.out k hlt2] at hcell
   go_wp2
   go_round
   case rel=>exact ⟨k + 1,oM,by go_num⟩
   case measure=>exact mS
  ·obtain rfl:k = i0:=oM
   have hne':(((dg x k:Nat):Int) == 0) = false:=sO
   have hdl:=dg_lt x k
   go_wp2_with fail
   refine (tz32_any _ _ hne hdl HT.out).mono ?_
   rintro e w' ⟨rfl,rfl⟩
   generalize Lib.ctz 32 (dg x k) = t at *
   go_wp2
   go_ret
   exact ⟨k * 32 + t,by go_num,HTW.out,oM,rfl⟩
theorem twos_bl {x t:Nat} (h:Twos x t):bl x = t + 1 ↔ ∃ s,x = 2 ^ s:=by
 have hx:x ≠ 0:=by
  obtain ⟨m,hm⟩:=h
  have:=Nat.pow_pos (a:=2) (n:=t) oM
  have h2:0 < 2 ^ t * (2 * m + 1):=Nat.mul_pos this oM
  omega
 constructor
 ·intro e
  obtain ⟨m,hm⟩:=h
  have h1:=((bl_spec hx).1 e).2
  rw [hm,Nat.pow_succ] at h1
  have:=Nat.lt_of_mul_lt_mul_left h1
  have:m = 0:=oM
  subst this
  exact ⟨t,by rw [hm]; omega⟩
 ·rintro ⟨s,hs⟩
  have h2:Twos x s:=⟨0,by rw [hs]; omega⟩
  obtain rfl:=twos_unique h h2
  refine (bl_spec hx).2 ?_
  rw [hs]
  exact ⟨Nat.le_refl _,Nat.pow_lt_pow_right oM oM⟩
def isPow (x:Nat):Bool:=decide (x = 2 ^ (bl x - 1))
theorem isPow_iff {x:Nat}:isPow x = true ↔ ∃ t,x = 2 ^ t:=by
 unfold isPow
 rw [decide_eq_true_iff]
 constructor
 ·intro h; exact ⟨_,h⟩
 ·rintro ⟨t,ht⟩
  have h2:Twos x t:=⟨0,by rw [ht]; omega⟩
  have:=(twos_bl h2).2 ⟨t,ht⟩
  rw [this,Nat.add_sub_cancel,<- ht]
theorem isPower_any (v:Value) (x:Nat) (w:World) (h:IsNat w v x) (hn:wl x <= 1099511627776) (hT:Tab w) :
  Calls Tryz.prog 211 #[v] w fun e w'=>e = .returned (.bool (isPow x)) /\ ∃ q,w' = w.drewN q:=by
 rcases Nat.eq_zero_or_pos (wl x) with h0 | h0
 ·obtain rfl:=wl_eq_zero.1 h0
  obtain ⟨A,c,rfl,hc,hw⟩:=h
  rw [wl_zero] at *
  go_enter Tryz.func211,Tryz.ntmps211
  go_wp2
  go_ret
  exact ⟨rfl,0,rfl⟩
 ·have HI:=hid h
  obtain ⟨A,c,rfl,hc,hw⟩:=h
  clear hw
  have hx0:x ≠ 0:=fun e=>by subst e; rw [wl_zero] at h0; omega
  have hp:(0:Int) < (wl x:Int):=oM
  have hbl:1 <= bl x:=by simp [bl,hx0]
  have hbu:bl x <= wl x * 32:=bl_le (by have:=lt_wl x; rw [show (4294967296:Nat) = 2 ^ 32 from rfl,<- Nat.pow_mul,Nat.mul_comm] at this; exact this)
  go_enter Tryz.func211,Tryz.ntmps211
  go_wp2_with fail
  refine (twos_any _ x _ HI.out hx0 hn hT).mono ?_
  rintro e w' ⟨t,rfl,ht,htl,rfl⟩
  have hd:decide ((t:Int) = (bl x:Int) - 1) = isPow x:=by
   rw [Bool.eq_iff_iff,isPow_iff,<- twos_bl ht]
   simp
   omega
  have hd2:((t:Int) == (bl x:Int) - 1) = isPow x:=by rw [<- hd,Bool.eq_iff_iff]; simp
  clear ht hd
  go_wp2_with fail
  refine (length_any _ x _ HI.out hn).mono ?_
  rintro e w' ⟨rfl,q,rfl⟩
  generalize bl x = B at *
  go_wp2
  go_ret
  exact ⟨rfl,q,rfl⟩
theorem or32_shl (w c n:Nat) (hn:n < 32) (hc:c < 2 ^ n) :
  ∃ s:Nat,bits .or .u32 ((w:Int) * 2 ^ n % 4294967296) (c:Int) = (s:Int) /\ s = w * 2 ^ n % 4294967296 + c /\ s < 4294967296:=by
 have e1:(w:Int) * 2 ^ n % 4294967296 = ((w * 2 ^ n % 4294967296:Nat):Int):=by
  rw [Int.natCast_emod,Int.natCast_mul,Int.natCast_pow]; rfl
 have hp:=pow32 n oM
 have h1:0 < 2 ^ (32 - n):=Nat.pow_pos oM
 have h2:0 < 2 ^ n:=Nat.pow_pos oM
 have hdvd:w * 2 ^ n % 4294967296 = w % 2 ^ (32 - n) * 2 ^ n:=by rw [<- hp,Nat.mul_comm (2 ^ n) (2 ^ (32 - n)),Nat.mul_mod_mul_right]
 have hlt:w * 2 ^ n % 4294967296 < 4294967296:=Nat.mod_lt _ oM
 have hsum:w * 2 ^ n % 4294967296 + c < 4294967296:=by
  rw [hdvd]
  have h3:w % 2 ^ (32 - n) < 2 ^ (32 - n):=Nat.mod_lt _ h1
  generalize w % 2 ^ (32 - n) = a at *
  generalize 2 ^ (32 - n) = q at *
  generalize 2 ^ n = p at *
  have h4:(a + 1) * p <= q * p:=Nat.mul_le_mul_right _ h3
  rw [Nat.add_mul,Nat.one_mul,Nat.mul_comm q p,hp] at h4
  omega
 refine ⟨_,?_,rfl,hsum⟩
 rw [e1,bits_join .u32 32 dE (fun n h1 h2=>by rw [IntKind.wrap_u32']; omega) n _ _ oM ?_ oM oM ?_ ?_]
 ·omega
 ·have e3:((2:Int) ^ n) = ((2 ^ n:Nat):Int):=by rw [Int.natCast_pow]; rfl
  rw [e3,<- Int.natCast_emod,hdvd,Nat.mul_mod_left]
  rfl
 ·have e3:((2:Int) ^ n) = ((2 ^ n:Nat):Int):=by rw [Int.natCast_pow]; rfl
  rw [e3]; omega
 ·have:(2:Nat) ^ n <= 2 ^ 32:=Nat.pow_le_pow_right oM oM
  omega
theorem shr_nat (w n:Nat):∃ s:Nat,(w:Int) / 2 ^ n = (s:Int) /\ s = w / 2 ^ n:=⟨_,by rw [Int.natCast_ediv,Int.natCast_pow]; rfl,rfl⟩
theorem shift_row {f' fx:Nat -> Nat} {off k s kk cc n:Nat} (hv:vs (fun j=>f' (off + j)) k + cc * 4294967296 ^ k = vs fx k * 2 ^ n)
  (hs:s = fx k * 2 ^ n % 4294967296 + cc) (hk:kk = fx k / 2 ^ (32 - n)) (hn:n < 32) :
  vs (fun j=>upd f' (off + k) s (off + j)) (k + 1) + kk * 4294967296 ^ (k + 1) = vs fx (k + 1) * 2 ^ n:=by
 rw [vs_succ,vs_succ,vs_upd_off,upd_same,Nat.pow_succ]
 have h1:=shl_step (fx k) cc n hn
 rw [<- hs,<- hk] at h1
 exact shift_step hv h1
theorem shiftInto_any (g off nz c m n cx:Nat) (f:Nat -> Nat) (A:Option Addr) (fx:Nat -> Nat) (nx:Nat) (w:World)
  (hr:Row w g m f) (hf:Wd f m) (hon:off + nx + 1 <= m) (hnz:nx + 1 <= nz) (hx:Wn w A nx fx) (hfx:Wd fx nx) (hA:∀ a,A = some a -> a.block ≠ g) (hm:m <= 1099511627776) (hn:n < 32) :
  Calls Tryz.prog 147 #[.slice (some ⟨g,off,none⟩) nz c,.slice A nx cx,.int .i64 (n:Int)] w fun e w'=>e = .returned (.tuple #[]) /\ ∃ f',Row w' g m f' /\ Wd f' m /\
   (∀ j,j < off ∨ off + nx + 1 <= j -> f' j = f j) /\ vs (fun j=>f' (off + j)) (nx + 1) = vs fx nx * 2 ^ n /\ w.grownBy w' (some g):=by
 have HX:=hid hx; clear hx
 have HA:=hid hA; clear hA
 have HR:=hid hr; clear hr
 go_enter Tryz.func147,Tryz.ntmps147
 go_wp2
 go_loopw [6,11] (fun cv i wr=>∃ k cc:Nat,k <= nx /\ i = .int .i64 k /\ cv = .int .u32 cc /\ cc < 2 ^ n /\ ∃ f',Row wr g m f' /\ Wd f' m /\ (∀ j,j < off ∨ off + k <= j -> f' j = f j) /\
   vs (fun j=>f' (off + j)) k + cc * 4294967296 ^ k = vs fx k * 2 ^ n /\ w.grownBy wr (some g)) (fun _ i _=>nx - (intOf i).toNat)
 case atStart=>exact ⟨0,0,oM,rfl,rfl,Nat.pow_pos oM,f,HR.out,hf,fun _ _=>rfl,by simp [vs_zero],grown_refl _ _⟩
 case round =>
  obtain ⟨k,cc,hk,rfl,rfl,hcc,f',hrow,hfw,hkeep,hv,hg⟩:=hrel
  have HV:=hid hv; clear hv
  have HK:=hid hkeep; clear hkeep
  have HG:=hid hg; clear hg
  have HRO:=hid hrow; clear hrow
  have HC:=hid hcc; clear hcc
  by_cases hlt:k < nx
  ·obtain ⟨b,o2,rfl,hb,hc1⟩:=(HX.out.grown HG.out (fun a ha=>by have:=HA.out a ha; simp; omega)) oM
   have hcell:=hc1 k hlt
   have hz:=HRO.out.cell (j:=off + k) oM
   have hzf:=HRO.out.frozen (off + k)
   clear hc1
   have hw1:=hfx k hlt
   obtain ⟨s,hs,hs1,hs2⟩:=or32_shl (fx k) cc n hn HC.out
   obtain ⟨kk,hkk,hkk1⟩:=shr_nat (fx k) (32 - n)
   have HS:=hid hs1
   have HKK:=hid hkk1
   clear hs1 hkk1
   go_wp2
   go_roundw
   case rel=>exact ⟨k + 1,kk,oM,by go_num,rfl,by rw [HKK.out]; exact shl_carry _ _ hn hw1,upd f' (off + k) s,HRO.out.set_ oM s,hfw.upd _ hs2,fun j hj=>by rw [upd_other _ _ oM]; exact HK.out j oM,shift_row HV.out HS.out HKK.out hn,grown_trans HG.out (grown_set _ _ _ _)⟩
   case measure=>exact mS
  ·obtain rfl:k = nx:=oM
   have hz:=HRO.out.cell (j:=off + k) oM
   have hzf:=HRO.out.frozen (off + k)
   have hcc2:cc < 4294967296:=by
    have:=HC.out
    have h2:(2:Nat) ^ n <= 2 ^ 32:=Nat.pow_le_pow_right oM oM
    omega
   go_wp2
   go_end0
   refine ⟨rfl,upd f' (off + k) cc,HRO.out.set_ oM cc,hfw.upd _ hcc2,fun j hj=>by rw [upd_other _ _ oM]; exact HK.out j oM,?_,grown_trans HG.out (grown_set _ _ _ _)⟩
   rw [vs_succ,vs_upd_off,upd_same]
   exact HV.out
theorem up_any (v:Value) (x n:Nat) (w:World) (h:IsNat w v x) (hn:wl x + n / 32 < 1099511627776) (hn2:n < 1125899906842624) :
  Calls Tryz.prog 98 #[v,.int .i64 (n:Int)] w (RetNat w (x * 2 ^ n)):=by
 rcases Nat.eq_zero_or_pos (wl x) with h0 | h0
 ·obtain rfl:=wl_eq_zero.1 h0
  have HI:=hid h
  obtain ⟨A,c,rfl,hc,hw⟩:=h
  rw [wl_zero] at *
  clear hw
  go_enter Tryz.func98,Tryz.ntmps98
  go_wp2
  go_ret
  exact ⟨_,rfl,HI.out,Below.refl _ _⟩
 rcases Nat.eq_zero_or_pos n with hn0 | hn0
 ·subst hn0
  have HI:=hid h
  obtain ⟨A,c,rfl,hc,hw⟩:=h
  clear hw
  have hl:(((wl x:Nat):Int) == 0) = false:=sO
  generalize hm:wl x = m at *
  clear hm
  go_enter Tryz.func98,Tryz.ntmps98
  go_wp2
  go_ret
  exact ⟨_,rfl,by rw [Nat.pow_zero,Nat.mul_one]; exact HI.out,Below.refl _ _⟩
 ·have hl:(((wl x:Nat):Int) == 0) = false:=sO
  have hl2:(((n:Nat):Int) == 0) = false:=sO
  obtain ⟨q,hq⟩:∃ q,n / 32 = q:=⟨_,rfl⟩
  obtain ⟨r,hr⟩:∃ r,n % 32 = r:=⟨_,rfl⟩
  have hq1:(n:Int) / 32 = (q:Int):=oM
  have hr1:(n:Int) % 32 = (r:Int):=oM
  have hr2:r < 32:=oM
  have hfin:vs (dg x) (wl x) * 2 ^ r * 4294967296 ^ q = x * 2 ^ n:=by
   rw [vs_dg_wl,pow_words n,hq,hr,Nat.mul_assoc,Nat.mul_comm (2 ^ r)]
  have HF:=hid hfin
  have hfx:=Wd_dg x (wl x)
  obtain ⟨A,c,rfl,hc,hw⟩:=h
  have H:=hid hw
  rw [hq] at hn
  have HQ:=hid hq
  have HR:=hid hr
  clear hfin hw hq hr
  generalize hm:wl x = m at *
  clear hm
  have hmk:∀ w,(Instr.makeSlice 45 (.int .i64 ((m:Int) + (q:Int) + 1)) (.int .i64 ((m:Int) + (q:Int) + 1))).run Tryz.prog w = .ok (.slice (some ⟨w.heap.size,0,none⟩) (m + q + 1) (m + q + 1)) (w.alloc (zrow (m + q + 1))):=fun w=>make_nat (m + q + 1) oM w
  go_enter Tryz.func98,Tryz.ntmps98
  go_wp2_with fail
  refine (shiftInto_any w.heap.size q (m + q + 1 - q) (m + q + 1 - q) (m + q + 1) r c (fun _=>0) A (dg x) m (w.alloc (zrow (m + q + 1))) (Row.zrow _ _) (Wd_zero _) oM oM (H.out.below (below_alloc _ _)) hfx ?_ oM hr2).mono ?_
  ·intro a ha
   obtain ⟨b,o,rfl,hlt,_⟩:=H.out h0
   cases ha
   simp; omega
  rintro e w2 ⟨rfl,f2,hr2',hf2,hk2,hv2,hg2⟩
  have hv3:vs f2 (m + q + 1) = x * 2 ^ n:=by
   rw [show m + q + 1 = q + (m + 1) by omega,vs_low_zero (fun j hj=>hk2 j oM),hv2,Nat.mul_comm]
   exact HF.out
  have HV:=hid hv3
  have HR2:=hid hr2'
  have HG:=hid ((below_alloc w (zrow (m + q + 1))).grown hg2 sP (fun k hk=>by cases hk; exact Nat.le_refl _))
  clear hv3 hv2 hk2 hr2' hg2
  go_wp2_with fail
  refine (trim_nat _ _ _ f2 _ HR2.out.wn0 hf2 oM oM).mono ?_
  rintro e w3 ⟨vv,rfl,hvv,rfl⟩
  have HVV:=hid hvv
  clear hvv
  go_wp2
  go_ret
  exact ⟨vv,rfl,by rw [<- HV.out]; exact HVV.out,HG.out⟩
theorem div_words (x q r j:Nat) (hr:r < 32):dg (x / 4294967296 ^ q / 2 ^ r) j = dg x (q + j) / 2 ^ r + dg x (q + j + 1) * 2 ^ (32 - r) % 4294967296:=by
 rw [dg_shr _ _ _ hr]
 have e:∀ i,dg (x / 4294967296 ^ q) i = dg x (q + i):=fun i=>by unfold dg; rw [Nat.div_div_eq_div_mul,<- Nat.pow_add]
 rw [e,e,Nat.add_assoc]
theorem dg_ge {x j:Nat} (h:wl x <= j):dg x j = 0:=by
 unfold dg
 rw [Nat.div_eq_of_lt (lL (lt_wl x) (pow_mono h))]
theorem or32_shr (a b r:Nat) (hr:r < 32) (ha:a < 2 ^ (32 - r)) :
  ∃ s:Nat,bits .or .u32 (a:Int) ((b:Int) * 2 ^ (32 - r) % 4294967296) = (s:Int) /\ s = a + b * 2 ^ (32 - r) % 4294967296 /\ s < 4294967296:=by
 have hc:∀ x y:Int,bits .or .u32 x y = bits .or .u32 y x:=fun x y=>by simp only [bits,BitVec.or_comm]
 by_cases h0:r = 0
 ·subst h0
  have e:(b:Int) * 2 ^ (32 - 0) % 4294967296 = ((0:Nat):Int):=by
   show (b:Int) * 4294967296 % 4294967296 = _
   omega
  have e2:b * 2 ^ (32 - 0) % 4294967296 = 0:=by
   show b * 4294967296 % 4294967296 = 0
   omega
  have ha':a < 4294967296:=ha
  refine ⟨a,?_,by rw [e2]; rfl,ha'⟩
  rw [e,u32_or_nat a 0 ha' oM,Nat.or_zero]
 ·obtain ⟨s,h1,h2,h3⟩:=or32_shl b a (32 - r) oM ha
  exact ⟨s,by rw [hc]; exact h1,by rw [h2,Nat.add_comm],h3⟩
theorem down_any (v:Value) (x n:Nat) (w:World) (h:IsNat w v x) (hn:wl x < 1099511627776) (hn2:n < 1125899906842624) :
  Calls Tryz.prog 212 #[v,.int .i64 (n:Int)] w (RetNat w (x / 2 ^ n)):=by
 rcases Nat.eq_zero_or_pos n with hn0 | hn0
 ·subst hn0
  have HI:=hid h
  clear h
  go_enter Tryz.func212,Tryz.ntmps212
  go_wp2
  go_ret
  exact ⟨_,rfl,by rw [Nat.pow_zero,Nat.div_one]; exact HI.out,Below.refl _ _⟩
 have hl2:(((n:Nat):Int) == 0) = false:=sO
 by_cases hbig:bl x <= n
 ·have hz:x / 2 ^ n = 0:=Nat.div_eq_of_lt (lL (lt_bl x) (Nat.pow_le_pow_right oM hbig))
  rw [hz]
  have HI:=hid h
  clear h hz
  go_enter Tryz.func212,Tryz.ntmps212
  go_wp2_with fail
  refine (length_any _ x _ HI.out oM).mono ?_
  rintro e w' ⟨rfl,q,rfl⟩
  go_wp2
  go_ret
  exact ⟨_,rfl,IsNat.zero _ _ _,below_drewN _ _⟩
 ·have HI:=hid h
  obtain ⟨q,hq⟩:∃ q,n / 32 = q:=⟨_,rfl⟩
  obtain ⟨r,hr⟩:∃ r,n % 32 = r:=⟨_,rfl⟩
  have hq1:(n:Int) / 32 = (q:Int):=oM
  have hr1:(n:Int) % 32 = (r:Int):=oM
  have hr2:r < 32:=oM
  have hqw:q < wl x:=by
   rcases Nat.lt_or_ge q (wl x) with h1 | h1
   ·exact h1
   ·have:=lt_wl x
    rw [show (4294967296:Nat) = 2 ^ 32 from rfl,<- Nat.pow_mul] at this
    have:=bl_le this
    omega
  obtain ⟨A,c,rfl,hc,hw⟩:=h
  obtain ⟨b,off,rfl,hlt,hcell⟩:=hw oM
  have HC:=hid hcell
  clear hw hcell
  go_enter Tryz.func212,Tryz.ntmps212
  go_wp2_with fail
  refine (length_any _ x _ HI.out oM).mono ?_
  rintro e w' ⟨rfl,qq,rfl⟩
  generalize bl x = B at *
  obtain ⟨m,hm⟩:∃ m,wl x - q = m:=⟨_,rfl⟩
  have hmk:=make_nat m oM
  go_wp2_with fail
  go_loopw [26] (fun i wr=>∃ k:Nat,k <= m /\ i = .int .i64 k /\ ∃ f,Row wr w.heap.size m f /\ Wd f m /\ (∀ j,j < k -> f j = dg (x / 4294967296 ^ q / 2 ^ r) j) /\ Below w.heap.size w wr) (fun i _=>m - (intOf i).toNat)
  case atStart=>exact ⟨0,oM,rfl,_,Row.zrow (w.drewN qq) m,Wd_zero _,fun j hj=>oM,(below_drewN w qq).alloc lR _⟩
  case round =>
   obtain ⟨k,hk,rfl,f,hrow,hfw,hv,hg⟩:=hrel
   have HV:=hid hv; clear hv
   have HG:=hid hg; clear hg
   have HRO:=hid hrow; clear hrow
   by_cases hlt1:k < m
   ·have hcell:=(HG.out.cell (p:=⟨b,off + (q + k),none⟩) (by simpa using hlt)).trans (HC.out (q + k) oM)
    have hz:=HRO.out.cell (j:=k) oM
    have hzf:=HRO.out.frozen k
    have hd1:=dg_lt x (q + k)
    rw [<- Nat.add_assoc] at hcell
    obtain ⟨s1,hs1,hs1e⟩:=shr_nat (dg x (q + k)) r
    have hs1l:s1 < 2 ^ (32 - r):=by rw [hs1e]; exact Nat.div_lt_of_lt_mul (by rw [pow32 r oM]; exact hd1)
    have hs1m:s1 < 4294967296:=by
     have:(2:Nat) ^ (32 - r) <= 2 ^ 32:=Nat.pow_le_pow_right oM oM
     omega
    have HE1:=hid hs1e
    have HL1:=hid hs1l
    clear hs1e hs1l
    by_cases hlt2:k + 1 < m
    ·have hcell2:=(HG.out.cell (p:=⟨b,off + (q + (k + 1)),none⟩) (by simpa using hlt)).trans (HC.out (q + (k + 1)) oM)
     have hd2:=dg_lt x (q + (k + 1))
     rw [<- Nat.add_assoc] at hcell2
     obtain ⟨s2,hs2,hs2e,hs2l⟩:=or32_shr s1 (dg x (q + (k + 1))) r hr2 HL1.out
     have HE2:=hid hs2e
     clear hs2e
     go_wp2
     go_region
     go_wp2
     go_roundw
     case rel=>exact ⟨k + 1,oM,by go_num,upd (upd f k s1) k s2,(HRO.out.set_ hlt1 s1).set_ hlt1 s2,(hfw.upd _ hs1m).upd _ hs2l,fun j hj=>by
       by_cases hjk:j = k
       ·subst hjk
        rw [upd_same,div_words _ _ _ _ hr2,HE2.out,HE1.out]
        rfl
       ·rw [upd_other _ _ hjk,upd_other _ _ hjk]; exact HV.out j oM,((HG.out.setCell lR _).setCell lR _).drew⟩
     case measure=>exact mS
    ·go_wp2
     go_roundw
     case rel=>exact ⟨k + 1,oM,by go_num,upd f k s1,HRO.out.set_ hlt1 s1,hfw.upd _ hs1m,fun j hj=>by
       by_cases hjk:j = k
       ·subst hjk
        rw [upd_same,div_words _ _ _ _ hr2,HE1.out,dg_ge (j:=q + j + 1) oM]
        simp
       ·rw [upd_other _ _ hjk]; exact HV.out j oM,HG.out.setCell lR _⟩
     case measure=>exact mS
   ·obtain rfl:k = m:=oM
    have hfin:vs f k = x / 2 ^ n:=by
     have hx:=lt_wl x
     have e1:x / 2 ^ n = x / 4294967296 ^ q / 2 ^ r:=by rw [pow_words n,Nat.div_div_eq_div_mul,hq,hr]
     have e2:x / 4294967296 ^ q < 4294967296 ^ k:=Nat.div_lt_of_lt_mul (by rw [<- Nat.pow_add,show q + k = wl x by omega]; exact hx)
     have e3:x / 4294967296 ^ q / 2 ^ r < 4294967296 ^ k:=Nat.lt_of_le_of_lt (Nat.div_le_self _ _) e2
     rw [vs_congr HV.out,vs_dg,Nat.mod_eq_of_lt e3,e1]
    have HF:=hid hfin
    clear hfin
    go_wp2_with fail
    refine (trim_nat _ _ _ f _ HRO.out.wn0 hfw oM oM).mono ?_
    rintro e w3 ⟨vv,rfl,hvv,rfl⟩
    have HVV:=hid hvv
    clear hvv
    go_wp2
    go_ret
    exact ⟨vv,rfl,by rw [<- HF.out]; exact HVV.out,HG.out⟩
def New (w:World) (v:Value):Prop:=∀ a n c,v = .slice (some a) n c -> w.heap.size <= a.block
def RetNew (w:World) (x:Nat) (e:Ending) (w':World):Prop:=∃ v,e = .returned v /\ IsNat w' v x /\ Below w.heap.size w w' /\ New w v
theorem trim_at (A:Option Addr) (n c:Nat) (f:Nat -> Nat) (w:World) (h:Wn w A n f) (hf:Wd f n) (hc:n <= c) (hn:n <= 1099511627776) :
  Calls Tryz.prog 148 #[.slice A n c] w fun e w'=>e = .returned (.slice A (tl f n) c) /\ IsNat w (.slice A (tl f n) c) (vs f n) /\ w = w' :=
 (trim_any A n c f w h hc hn).mono fun _ _ ⟨he,hw⟩=>⟨he,IsNat.mk_tl h hf hc,hw⟩
theorem mul_nat (v w:Nat) (hv:v < 4294967296) (hw:w < 4294967296):∃ p:Nat,(v:Int) * (w:Int) = (p:Int) /\ p = v * w /\ p <= 18446744065119617025 :=
 ⟨v * w,by rw [Int.natCast_mul],rfl,by
  have:=Nat.mul_le_mul (show v <= 4294967295 by omega) (show w <= 4294967295 by omega)
  omega⟩
theorem incBy_row {f f' fx:Nat -> Nat} {off k t cc p wd:Nat} (hv:vs (fun j=>f' (off + j)) k + cc * 4294967296 ^ k = vs (fun j=>f (off + j)) k + vs fx k * wd)
  (ht:t = cc + (p + f' (off + k))) (hp:p = fx k * wd) (hk:f' (off + k) = f (off + k)) :
  vs (fun j=>upd f' (off + k) (t % 4294967296) (off + j)) (k + 1) + t / 4294967296 * 4294967296 ^ (k + 1) = vs (fun j=>f (off + j)) (k + 1) + vs fx (k + 1) * wd:=by
 rw [vs_succ,vs_succ,vs_succ,vs_upd_off,upd_same,Nat.pow_succ]
 have h1:t % 4294967296 + t / 4294967296 * 4294967296 = t:=oM
 rw [hk] at ht
 generalize t % 4294967296 = s at *
 generalize t / 4294967296 = kk at *
 subst hp
 grind
theorem increaseBy_any (g off nz c m wd cx:Nat) (f:Nat -> Nat) (A:Option Addr) (fx:Nat -> Nat) (nx:Nat) (w:World)
  (hr:Row w g m f) (hf:Wd f m) (hon:off + nx <= m) (hnz:nx <= nz) (hx:Wn w A nx fx) (hfx:Wd fx nx) (hA:∀ a,A = some a -> a.block ≠ g) (hm:m <= 1099511627776) (hw:wd < 4294967296) :
  Calls Tryz.prog 241 #[.slice (some ⟨g,off,none⟩) nz c,.slice A nx cx,.int .u32 (wd:Int)] w fun e w'=>∃ cc f',e = .returned (.int .u32 ((cc:Nat):Int)) /\ cc < 4294967296 /\ Row w' g m f' /\ Wd f' m /\
   (∀ j,j < off ∨ off + nx <= j -> f' j = f j) /\ vs (fun j=>f' (off + j)) nx + cc * 4294967296 ^ nx = vs (fun j=>f (off + j)) nx + vs fx nx * wd /\ w.grownBy w' (some g):=by
 have HX:=hid hx; clear hx
 have HA:=hid hA; clear hA
 have HR:=hid hr; clear hr
 go_enter Tryz.func241,Tryz.ntmps241
 go_wp2
 go_loopw [7,12] (fun cv i wr=>∃ k cc:Nat,k <= nx /\ i = .int .i64 k /\ cv = .int .u64 cc /\ cc < 4294967296 /\ ∃ f',Row wr g m f' /\ Wd f' m /\ (∀ j,j < off ∨ off + k <= j -> f' j = f j) /\
   vs (fun j=>f' (off + j)) k + cc * 4294967296 ^ k = vs (fun j=>f (off + j)) k + vs fx k * wd /\ w.grownBy wr (some g)) (fun _ i _=>nx - (intOf i).toNat)
 case atStart=>exact ⟨0,0,oM,rfl,rfl,oM,f,HR.out,hf,fun _ _=>rfl,by simp [vs_zero],grown_refl _ _⟩
 case round =>
  obtain ⟨k,cc,hk,rfl,rfl,hcc,f',hrow,hfw,hkeep,hv,hg⟩:=hrel
  have HV:=hid hv; clear hv
  have HK:=hid hkeep; clear hkeep
  have HG:=hid hg; clear hg
  have HRO:=hid hrow; clear hrow
  by_cases hlt:k < nx
  ·obtain ⟨b,o2,rfl,hb,hc1⟩:=(HX.out.grown HG.out (fun a ha=>by have:=HA.out a ha; simp; omega)) oM
   have hcell:=hc1 k hlt
   have hz:=HRO.out.cell (j:=off + k) oM
   have hzf:=HRO.out.frozen (off + k)
   clear hc1
   have hw1:=hfx k hlt
   have hw2:=hfw (off + k) oM
   obtain ⟨p,hp,hpe,hpl⟩:=mul_nat (fx k) wd hw1 hw
   have HP:=hid hpe
   clear hpe
   go_wp2
   go_roundw
   case rel=>exact ⟨k + 1,(cc + (p + f' (off + k))) / 4294967296,oM,by go_num,rfl,oM,upd f' (off + k) ((cc + (p + f' (off + k))) % 4294967296),HRO.out.set_ oM ((cc + (p + f' (off + k))) % 4294967296),hfw.upd _ oM,fun j hj=>by rw [upd_other _ _ oM]; exact HK.out j oM,incBy_row HV.out rfl HP.out (HK.out _ oM),grown_trans HG.out (grown_set _ _ _ _)⟩
   case measure=>exact mS
  ·obtain rfl:k = nx:=oM
   go_wp2
   go_ret
   exact ⟨cc,f',rfl,hcc,HRO.out,hfw,fun j hj=>HK.out j oM,HV.out,HG.out⟩
theorem mulrow_step {f f' fx:Nat -> Nat} {k m cc x w t:Nat} (h0:vs f (k + m) = t) (hk:∀ j,j < k ∨ k + m <= j -> f' j = f j)
  (hv:vs (fun j=>f' (k + j)) m + cc * 4294967296 ^ m = vs (fun j=>f (k + j)) m + vs fx m * w) (hx:vs fx m = x) :
  vs (upd f' (k + m) cc) (k + m + 1) = t + x * (w * 4294967296 ^ k):=by
 rw [vs_upd_succ,vs_add,vs_congr (f:=f') (g:=f) (fun j hj=>hk j oM),<- h0,vs_add,Nat.pow_add]
 subst hx
 generalize 4294967296 ^ k = P at *
 generalize 4294967296 ^ m = Q at *
 generalize vs (fun j=>f' (k + j)) m = a at *
 generalize vs (fun j=>f (k + j)) m = b at *
 generalize vs fx m = c at *
 generalize vs f k = d at *
 have h1:=congrArg (fun z=>P * z) hv
 simp only [Nat.mul_add] at h1
 grind
theorem mulPlain_any (v u:Value) (x y:Nat) (w:World) (hv:IsNat w v x) (hu:IsNat w u y) (hx0:0 < wl x) (hn:wl x + wl y < 1099511627776) :
  Calls Tryz.prog 231 #[v,u] w (RetNew w (x * y)):=by
 have hfx:=Wd_dg x (wl x)
 have hX:=vs_dg_wl x
 have hfy:=Wd_dg y (wl y)
 have hY:=vs_dg_wl y
 obtain ⟨A,c,rfl,hc,hw⟩:=hv
 have H:=hid hw
 obtain ⟨A',c',rfl,hc',hw'⟩:=hu
 have H':=hid hw'
 have HX:=hid hX
 have HY:=hid hY
 clear hw hX hw' hY
 generalize hm:wl x = m at *
 generalize hm':wl y = m' at *
 clear hm hm'
 have hmk:∀ w,(Instr.makeSlice 45 (.int .i64 ((m:Int) + (m':Int))) (.int .i64 ((m:Int) + (m':Int)))).run Tryz.prog w = .ok (.slice (some ⟨w.heap.size,0,none⟩) (m + m') (m + m')) (w.alloc (zrow (m + m'))):=fun w=>make_nat (m + m') oM w
 go_enter Tryz.func231,Tryz.ntmps231
 go_wp2
 go_loopw [16] (fun i wr=>∃ k:Nat,k <= m' /\ i = .int .i64 k /\ ∃ f,Row wr w.heap.size (m + m') f /\ Wd f (m + m') /\ (∀ j,k + m <= j -> f j = 0) /\
   vs f (k + m) = x * vs (dg y) k /\ Below w.heap.size w wr) (fun i _=>m' - (intOf i).toNat)
 case atStart=>exact ⟨0,oM,rfl,_,Row.zrow w (m + m'),Wd_zero _,fun j hj=>rfl,by rw [vs_zeros (fun _ _=>rfl)]; simp [vs_zero],below_alloc _ _⟩
 case round =>
  obtain ⟨k,hk,rfl,f,hrow,hfw,hz0,hv,hg⟩:=hrel
  have HV:=hid hv; clear hv
  have HG:=hid hg; clear hg
  have HRO:=hid hrow; clear hrow
  have HZ:=hid hz0; clear hz0
  by_cases hlt:k < m'
  ·obtain ⟨g1,o2,rfl,hb1,hc1⟩:=(H'.out.below HG.out) oM
   have hcell:=hc1 k hlt
   clear hc1
   have hw1:=hfy k hlt
   go_wp2_with fail
   refine (increaseBy_any w.heap.size k m (m + m' - k) (m + m') (dg y k) c f A (dg x) m wr HRO.out hfw oM lR (H.out.below HG.out) hfx ?_ oM hw1).mono ?_
   ·intro a ha
    obtain ⟨b,o,rfl,hlt,_⟩:=H.out hx0
    cases ha
    simp; omega
   rintro e w2 ⟨cc,f2,rfl,hcc,hr2,hf2,hk2,hv2,hg2⟩
   have hstep:=mulrow_step (x:=x) HV.out hk2 hv2 HX.out
   have hz:=hr2.cell (j:=k + m) oM
   have hzf:=hr2.frozen (k + m)
   have hkk:=hid hk2
   have HR2:=hid hr2
   have HS:=hid hstep
   have HG2:=hid (HG.out.grown hg2 HG.out.size (fun k hk=>by cases hk; exact Nat.le_refl _))
   clear hk2 hv2 hg2 hr2 hstep
   go_wp2
   go_roundw
   case rel=>exact ⟨k + 1,oM,by go_num,upd f2 (k + m) cc,HR2.out.set_ oM cc,hf2.upd _ hcc,fun j hj=>by rw [upd_other _ _ oM,hkk.out j oM]; exact HZ.out j oM,by rw [show k + 1 + m = k + m + 1 by omega,HS.out,vs_succ,Nat.mul_add],HG2.out.setCell lR _⟩
   case measure=>exact mS
  ·obtain rfl:k = m':=oM
   have hfin:vs f (m + k) = x * y:=by rw [Nat.add_comm,HV.out,HY.out]
   have HF:=hid hfin
   clear hfin
   go_wp2_with fail
   refine (trim_at _ _ _ f _ HRO.out.wn0 hfw oM oM).mono ?_
   rintro e w3 ⟨rfl,hvv,rfl⟩
   have HVV:=hid hvv
   clear hvv
   go_wp2
   go_ret
   exact ⟨_,rfl,by rw [<- HF.out]; exact HVV.out,HG.out,fun a n c h=>by cases h; exact Nat.le_refl _⟩
end Go.Proofs.YtjodlmanheeajaaGreatDoor
