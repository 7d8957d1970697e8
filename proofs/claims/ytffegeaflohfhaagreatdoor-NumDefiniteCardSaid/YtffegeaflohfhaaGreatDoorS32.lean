import Derived.Test.YtffegeaflohfhaaGreatDoorS02
import Derived.Test.YtffegeaflohfhaaGreatDoorS04
import Derived.Test.YtffegeaflohfhaaGreatDoorS05
set_option linter.unusedVariables false
set_option linter.unusedSimpArgs false
set_option maxRecDepth 100000
set_option maxHeartbeats 8000000
namespace Go.Proofs.YtffegeaflohfhaaGreatDoor
open Go.RowKit
theorem rtrim_any (A:Option Addr) (n c:Nat) (f:Nat -> Nat) (w:World) (h:Wn w A n f) (hc:n <= c) (hn:n <= 1099511627776) :
  Calls Tryz.prog 148 #[.slice A n c] w fun e w'=>e = .returned (.slice A (tl f n) c) /\ w = w':=by
 have H:=hid h; clear h
 go_enter Tryz.func148,Tryz.ntmps148
 go_wp2
 go_loop [3] (fun i=>∃ k:Nat,k <= n /\ tl f k = tl f n /\ i = .int .i64 k) (fun i=>(intOf i).toNat)
 case atStart=>exact ⟨n,oM,rfl,rfl⟩
 case round =>
  obtain ⟨k,hk,ht,rfl⟩:=hrel
  have HT:=hid ht; clear ht
  rcases Nat.eq_zero_or_pos k with h0 | h0
  ·subst h0
   go_wp2
   go_ret
   exact ⟨by rw [<- HT.out]; rfl,rfl⟩
  ·obtain ⟨m,rfl⟩:∃ m,k = m + 1:=⟨k - 1,oM⟩
   obtain ⟨b,off,rfl,hb,hc1⟩:=H.out oM
   have hcell:=hc1 m oM
   clear hc1
   by_cases hf:f m = 0
   ·rw [hf] at hcell
    go_wp2
    go_round
    case rel=>exact ⟨m,oM,by rw [<- HT.out]; simp [tl,hf],by go_num⟩
    case measure=>simp [intOf]
   ·have hne:((f m:Int) == 0) = false:=sO
    have hfm:=HT.out
    rw [tl,if_neg hf] at hfm
    have HF:=hid hfm
    clear hfm hf
    go_wp2
    go_ret
    exact ⟨by rw [<- HF.out]; rfl,rfl⟩
theorem rtrim_nat (A:Option Addr) (n c:Nat) (f:Nat -> Nat) (w:World) (h:Wn w A n f) (hf:Wd f n) (hc:n <= c) (hn:n <= 1099511627776) :
  Calls Tryz.prog 148 #[.slice A n c] w fun e w'=>∃ v,e = .returned v /\ IsNat w v (vs f n) /\ w = w' :=
 (rtrim_any A n c f w h hc hn).mono fun _ _ ⟨he,hw⟩=>⟨_,he,IsNat.mk_tl h hf hc,hw⟩
theorem rNatOf_any (x:Nat) (w:World) (hx:x < 18446744073709551616) :
  Calls Tryz.prog 141 #[.int .u64 (x:Int)] w (RetNat w x):=by
 have hd0:dg x 0 = x % 4294967296:=dg_zero x
 have hd1:dg x 1 = x / 4294967296:=by rw [dg_one]; omega
 have hW:Wn (w.alloc (.cells #[.int .u32 ((x:Int) % 4294967296),.int .u32 ((x:Int) / 4294967296)] 136)) (some ⟨w.heap.size,0,none⟩) 2 (dg x):=by
  refine fun _=>⟨_,_,rfl,sP,fun j hj=>?_⟩
  rcases (show j = 0 ∨ j = 1 by omega) with rfl | rfl
  ·rw [hd0]; simp
  ·rw [hd1]; simp
 have hx2:vs (dg x) 2 = x:=by rw [vs_dg]; exact Nat.mod_eq_of_lt oM
 have H:=hid hW
 have HX:=hid hx2
 clear hW hd0 hd1 hx2
 go_enter Tryz.func141,Tryz.ntmps141
 go_wp2_with (go_at_call 148; refine (rtrim_nat _ _ _ (dg x) _ H.out (Wd_dg _ _) oM oM).mono ?_; rintro e w' ⟨v,rfl,hv,rfl⟩)
 go_ret
 exact ⟨v,rfl,by rw [HX.out] at hv; exact hv,below_alloc _ _⟩
theorem rNatCmp_any (v u:Value) (x y:Nat) (w:World) (hv:IsNat w v x) (hu:IsNat w u y) (hn:wl x <= 1099511627776) (hm:wl y <= 1099511627776) :
  Calls Tryz.prog 146 #[v,u] w fun e w'=>e = .returned (.int .i64 (cmpN x y)) /\ ∃ q,w' = w.drewN q:=by
 obtain ⟨A,c,rfl,hc,hw⟩:=hv
 obtain ⟨A',c',rfl,hc',hw'⟩:=hu
 by_cases hl:wl x = wl y
 ·have hx:=vs_dg_wl x
  have hy:=vs_dg_wl y
  rw [<- hl] at hc' hw' hy ⊢
  have hfx:=Wd_dg x (wl x)
  have hfy:=Wd_dg y (wl x)
  have hpost:∀ k,k < wl x -> (∀ j,k < j -> j < wl x -> dg x j = dg y j) -> dg x k ≠ dg y k -> ordI (decide (dg x k < dg y k)) = cmpN x y:=by
   intro k hk he hne
   unfold cmpN ordI
   by_cases hlt:dg x k < dg y k
   ·have:=vs_lt_of hfx hk hlt he
    rw [hx,hy] at this
    rw [decide_eq_true hlt,if_pos this]; rfl
   ·have:=vs_lt_of hfy hk (show dg y k < dg x k by omega) (fun j h1 h2=>(he j h1 h2).symm)
    rw [hx,hy] at this
    rw [decide_eq_false hlt,if_neg (show ¬ x < y by omega),if_neg (show ¬ x = y by omega)]; rfl
  have heq:(∀ j,j < wl x -> dg x j = dg y j) -> cmpN x y = 0:=by
   intro he
   have:x = y:=by rw [<- hx,<- hy]; exact vs_congr he
   subst this
   simp [cmpN]
  have HP:=hid hpost
  have HE:=hid heq
  have H:=hid hw
  have H':=hid hw'
  have hfx:=hid hfx
  have hfy:=hid hfy
  clear hpost heq hw hw' hx hy hl hm
  generalize wl x = n at *
  go_enter Tryz.func146,Tryz.ntmps146
  go_wp2
  go_loopw [5] (fun i wr=>∃ k q:Nat,k <= n /\ (∀ j,k <= j -> j < n -> dg x j = dg y j) /\ i = .int .i64 ((k:Int) - 1) /\ wr = w.drewN q) (fun i _=>(intOf i + 1).toNat)
  case atStart=>exact ⟨n,0,oM,fun j h1 h2=>oM,rfl,rfl⟩
  case round =>
   obtain ⟨k,q,hk,ht,rfl,rfl⟩:=hrel
   have HT:=hid ht; clear ht
   rcases Nat.eq_zero_or_pos k with h0 | h0
   ·subst h0
    go_wp2
    go_ret
    exact ⟨by rw [HE.out (fun j hj=>HT.out j oM hj)]; rfl,q,rfl⟩
   ·obtain ⟨m,rfl⟩:∃ m,k = m + 1:=⟨k - 1,oM⟩
    obtain ⟨b,off,rfl,hb,hc1⟩:=H.out oM
    obtain ⟨b',off',rfl,hb',hc1'⟩:=H'.out oM
    have hcell:=hc1 m oM
    have hcell':=hc1' m oM
    have hp:=HP.out m oM (fun j h1 h2=>HT.out j oM h2)
    have HPP:=hid hp
    have hnext:dg x m = dg y m -> ∀ j,m <= j -> j < n -> dg x j = dg y j:=fun he j h1 h2=>by
     by_cases hj:j = m
     ·subst hj; exact he
     ·exact HT.out j oM h2
    have HN:=hid hnext
    clear hc1 hc1' hp hnext
    generalize dg x m = a at *
    generalize dg y m = a' at *
    by_cases hne:a = a'
    ·subst hne
     go_wp2
     go_quiet (fail)
     go_wp2
     go_roundw
     case rel=>exact ⟨m,_,oM,HN.out trivial,by go_num,rfl⟩
     case measure=>simp [intOf]
    ·have hq:(((a:Nat):Int) != (a':Int)) = true:=sO
     by_cases hlt:a < a'
     ·have hlt2:(decide ((a:Int) < (a':Int))) = true:=sO
      go_wp2
      go_quiet (fail)
      go_wp2
      go_quiet (fail)
      go_wp2
      go_ret
      exact ⟨by rw [<- HPP.out hne,decide_eq_true hlt]; rfl,by simp only [World.drewN_drewN]; exact ⟨_,rfl⟩⟩
     ·have hlt2:(decide ((a:Int) < (a':Int))) = false:=sO
      go_wp2
      go_quiet (fail)
      go_wp2
      go_quiet (fail)
      go_wp2
      go_ret
      exact ⟨by rw [<- HPP.out hne,decide_eq_false hlt]; rfl,by simp only [World.drewN_drewN]; exact ⟨_,rfl⟩⟩
 ·have hne:(((wl x:Nat):Int) != ((wl y:Nat):Int)) = true:=sO
  have hfin:cmpN x y = ordI (decide (wl x < wl y)):=by
   unfold cmpN ordI
   by_cases h:x < y
   ·have:=wl_mono (Nat.le_of_lt h)
    rw [if_pos h,if_pos sO]
   ·have:=wl_mono (Nat.le_of_not_lt h)
    rw [if_neg h,if_neg (fun e=>hl (by rw [e])),if_neg sO]
  have HF:=hid hfin
  clear hfin hw hw' hl
  generalize wl x = n at *
  generalize wl y = n' at *
  by_cases hlt:n < n'
  ·rw [decide_eq_true hlt] at HF
   go_enter Tryz.func146,Tryz.ntmps146
   go_wp2
   go_ret
   exact ⟨by rw [HF.out]; rfl,0,rfl⟩
  ·rw [decide_eq_false hlt] at HF
   go_enter Tryz.func146,Tryz.ntmps146
   go_wp2
   go_ret
   exact ⟨by rw [HF.out]; rfl,0,rfl⟩
theorem make_words (n:Nat) (hn:n <= 1099511627776) (w:World):(Instr.makeSlice 30 (.int .i64 (n:Int)) (.int .i64 (n:Int))).run Tryz.prog w = .ok (.slice (some ⟨w.heap.size,0,none⟩) n n) (w.alloc (zrow n)) :=
 run_make_row' 30 136 (.int .u32 0) 4 Tryz.underlying30 info_u32z rfl .i64 .i64 n oM oM w
theorem digit_nat (rest a d:Nat) (hr:rest < d) (hd:d < 4294967296) (ha:a < 4294967296):∃ x q r:Nat,bits .or .u64 ((rest:Int) * 4294967296) (a:Int) = (x:Int) /\ x < 18446744073709551616 /\ q * d + r = rest * 4294967296 + a /\ r < d /\ q < 4294967296 /\
  IntKind.u64.wrap ((x:Int) / (d:Int)) = (q:Int) /\ (x:Int) % (d:Int) = (r:Int):=by
 have hz:rest * 4294967296 + a < d * 4294967296:=oM
 have hq:(rest * 4294967296 + a) / d < 4294967296:=Nat.div_lt_of_lt_mul oM
 have hrr:(rest * 4294967296 + a) % d < d:=Nat.mod_lt _ oM
 have he:(rest * 4294967296 + a) / d * d + (rest * 4294967296 + a) % d = rest * 4294967296 + a:=Nat.div_add_mod' _ _
 have h1:IntKind.u64.wrap (((rest * 4294967296 + a:Nat):Int) / (d:Int)) = (((rest * 4294967296 + a) / d:Nat):Int):=by
  rw [<- Int.natCast_ediv,IntKind.wrap_u64]; revert hq; generalize (rest * 4294967296 + a) / d = t; intro hq; omega
 have h2:((rest * 4294967296 + a:Nat):Int) % (d:Int) = (((rest * 4294967296 + a) % d:Nat):Int):=(Int.natCast_emod _ _).symm
 refine ⟨rest * 4294967296 + a,(rest * 4294967296 + a) / d,(rest * 4294967296 + a) % d,?_,oM,he,hrr,hq,h1,h2⟩
 rw [or64 rest a oM ha]; omega
def NatRow (w:World) (v:Value) (x:Nat):Prop:=∃ g n c f,v = .slice (some ⟨g,0,none⟩) (tl f n) c /\ Row w g n f /\ Wd f n /\ n <= c /\ vs f n = x
theorem NatRow.nat {w:World} {v:Value} {x:Nat} (h:NatRow w v x):IsNat w v x:=by
 obtain ⟨g,n,c,f,rfl,h1,h2,h3,rfl⟩:=h
 exact IsNat.mk_tl h1.wn0 h2 h3
theorem natDigit_row (v:Value) (x d:Nat) (w:World) (h:IsNat w v x) (hd0:0 < d) (hd:d < 4294967296) (hn:wl x <= 1099511627776) :
  Calls Tryz.prog 165 #[v,.int .u32 (d:Int)] w fun e w'=>∃ u,e = .returned (.tuple #[u,.int .u32 ((x % d:Nat):Int)]) /\ NatRow w' u (x / d) /\ Below w.heap.size w w':=by
 obtain ⟨A,c,rfl,hc,hw⟩:=h
 have hfx:=Wd_dg x (wl x)
 have hx:=vs_dg_wl x
 have HX:=hid hw
 have HV0:=hid hx
 have hne:((d:Int) != 0) = true:=sO
 have hn0:((d:Int) == 0) = false:=sO
 clear hw hx
 generalize wl x = n at *
 have hmk:=make_words n hn w
 have hrow0:=Row.zrow w n
 obtain ⟨W1,hW1⟩:∃ W1,W1 = w.alloc (zrow n):=⟨_,rfl⟩
 rw [<- hW1] at hmk hrow0
 have hB1:Below w.heap.size w W1:=by rw [hW1]; exact below_alloc _ _
 have hgw:W1.heap.size = w.heap.size + 1:=by rw [hW1]; simp
 clear hW1
 have HR:=hid hrow0; clear hrow0
 go_enter Tryz.func165,Tryz.ntmps165
 go_wp2
 go_loopw [7,8] (fun rv i wr=>∃ k rest:Nat,k <= n /\ i = .int .i64 ((k:Int) - 1) /\ rv = .int .u64 rest /\ rest < d /\ ∃ f',Row wr w.heap.size n f' /\ (∀ j,k <= j -> j < n -> f' j < 4294967296) /\
   vs (fun j=>dg x (k + j)) (n - k) = vs (fun j=>f' (k + j)) (n - k) * d + rest /\ Below w.heap.size w wr) (fun _ i _=>(intOf i + 1).toNat)
 case atStart=>exact ⟨n,0,oM,rfl,rfl,hd0,_,HR.out,fun j h1 h2=>oM,by rw [Nat.sub_self,vs_zero,vs_zero]; simp,hB1⟩
 case round =>
  obtain ⟨k,rest,hk,rfl,rfl,hrd,f',hrow,hfw,hv,hg⟩:=hrel
  have HV:=hid hv; clear hv
  have HF:=hid hfw; clear hfw
  have HG:=hid hg; clear hg
  have HRO:=hid hrow; clear hrow
  rcases Nat.eq_zero_or_pos k with h0 | h0
  ·subst h0
   have hv:=HV.out
   simp only [Nat.zero_add,Nat.sub_zero] at hv
   have hfw:Wd f' n:=fun j hj=>HF.out j oM hj
   have hvq:vs f' n = x / d:=by
    rw [HV0.out] at hv
    have:x / d = (vs f' n * d + rest) / d:=by rw [<- hv]
    rw [this,Nat.mul_comm,Nat.mul_add_div hd0,Nat.div_eq_of_lt hrd]
    omega
   have hrq:rest = x % d:=by
    rw [HV0.out] at hv
    rw [hv,Nat.mul_comm,Nat.mul_add_mod,Nat.mod_eq_of_lt hrd]
   have HVQ:=hid hvq
   have HRQ:=hid hrq
   clear hv hvq hrq
   have hr32:(rest:Int) % 4294967296 = (rest:Int):=oM
   go_wp2_with (go_at_call 148; refine (rtrim_any _ _ _ f' _ HRO.out.wn0 oM oM).mono ?_; rintro e w' ⟨rfl,rfl⟩)
   go_ret2
   exact ⟨_,by rw [<- HRQ.out]; rfl,⟨_,n,_,f',rfl,HRO.out,hfw,Nat.le_refl _,HVQ.out⟩,HG.out⟩
  ·obtain ⟨k2,rfl⟩:∃ k2,k = k2 + 1:=⟨k - 1,oM⟩
   obtain ⟨b,o2,rfl,hb,hc1⟩:=HX.out oM
   have hcell:=(HG.out.cell (p:=⟨b,o2 + k2,none⟩) hb).trans (hc1 k2 oM)
   have hz:=HRO.out.cell (j:=k2) oM
   have hzf:=HRO.out.frozen k2
   clear hc1
   have hw1:=hfx k2 oM
   obtain ⟨xx,s,r,e1,hxx,hs,hr1,hs1,e2,e3⟩:=digit_nat rest (dg x k2) d hrd hd hw1
   have HS:=hid hs; clear hs
   have hs32:(s:Int) % 4294967296 = (s:Int):=oM
   go_wp2
   go_roundw
   case rel=>exact ⟨k2,r,oM,by go_num,by rw [e3],hr1,upd f' k2 s,HRO.out.set_ oM s,fun j h1 h2=>by
     unfold upd
     split
     ·exact hs1
     ·exact HF.out j oM h2,by
     have hv:=HV.out
     rw [show n - (k2 + 1) = n - k2 - 1 by omega] at hv
     rw [show n - k2 = (n - k2 - 1) + 1 by omega]
     exact divw_step hv HS.out,HG.out.setCell lR _⟩
   case measure=>simp [intOf]
theorem natDigit_any (v:Value) (x d:Nat) (w:World) (h:IsNat w v x) (hd0:0 < d) (hd:d < 4294967296) (hn:wl x <= 1099511627776) :
  Calls Tryz.prog 165 #[v,.int .u32 (d:Int)] w fun e w'=>∃ u,e = .returned (.tuple #[u,.int .u32 ((x % d:Nat):Int)]) /\ IsNat w' u (x / d) /\ Below w.heap.size w w' :=
 (natDigit_row v x d w h hd0 hd hn).mono fun _ _ ⟨u,h1,h2,h3⟩=>⟨u,h1,h2.nat,h3⟩
theorem rNatBits_any (v:Value) (x n:Nat) (w:World) (h:IsNat w v x) (hn:wl x = n + 1) (hm:n <= 1099511627776) :
  Calls Tryz.prog 166 #[v] w fun e w'=>e = .returned (.int .i64 ((32 * n + bl (dg x n):Nat):Int)) /\ w = w':=by
 obtain ⟨A,c,rfl,hc,hw⟩:=h
 have hlt:=dg_lt x n
 rw [hn] at hc hw ⊢
 obtain ⟨b,off,rfl,hb,hce⟩:=hw oM
 have hcell:=hce n oM
 clear hce
 have hbl:bl (dg x n) <= 32:=bl_le hlt
 generalize dg x n = t at *
 have HB:=hid hbl
 clear hw hn hbl
 go_enter Tryz.func166,Tryz.ntmps166
 go_wp2
 go_loop [3,4] (fun i y=>∃ k u:Nat,i = .int .i64 k /\ y = .int .u32 u /\ u < 4294967296 /\ k + bl u = bl t) (fun _ y=>(intOf y).toNat)
 case atStart=>exact ⟨0,t,rfl,rfl,hlt,oM⟩
 case round =>
  obtain ⟨k,u,rfl,rfl,hu,hk⟩:=hrel
  have HK:=hid hk; clear hk
  by_cases h0:u = 0
  ·subst h0
   have hk:=HK.out
   rw [bl_zero] at hk
   have HK2:=hid hk
   have hb32:=HB.out
   have hk32:k <= 32:=oM
   clear hk
   go_wp2
   go_ret
   exact ⟨by rw [<- HK2.out]; simp <;> omega,rfl⟩
  ·have hb32:=HB.out
   have hk:=HK.out
   rw [bl_half h0] at hk
   have HK2:=hid hk
   have hk32:k <= 32:=oM
   clear hk
   go_wp2
   go_round
   case rel=>exact ⟨k + 1,u / 2,by go_num,sP,oM,by have:=HK2.out; omega⟩
   case measure=>exact mS
theorem shl_row {f:Nat -> Nat} {P s hi t w r lo:Nat} (hv:vs f (P + 1) = t) (hs:s = f P + lo) (hl:lo + hi * 4294967296 = w * 2 ^ r) :
  vs (upd (upd f P s) (P + 1) hi) (P + 1 + 1) = t + w * 2 ^ r * 4294967296 ^ P:=by
 rw [vs_succ,vs_succ,vs_upd_ge _ _ oM,vs_upd_ge _ _ oM,upd_same,upd_other _ _ oM,upd_same,Nat.pow_succ,<- hl,<- hv,vs_succ,hs]
 generalize 4294967296 ^ P = B
 grind
theorem u64_shl (w c r:Nat) (hr:r < 32) (hw:w < 4294967296) (hc:c < 2 ^ r):∃ X lo hi s:Nat,IntKind.u64.wrap ((w:Int) * 2 ^ r) = (X:Int) /\ X < 9223372036854775808 /\ (X:Int) % 4294967296 = (lo:Int) /\ (X:Int) / 4294967296 = (hi:Int) /\ (hi:Int) % 4294967296 = (hi:Int) /\
  bits .or .u32 (c:Int) (lo:Int) = (s:Int) /\ s = c + lo /\ s < 4294967296 /\ lo + hi * 4294967296 = w * 2 ^ r /\ hi < 2 ^ r /\ hi < 4294967296 /\ lo < 4294967296:=by
 have h2:(2:Nat) ^ r <= 2 ^ 31:=Nat.pow_le_pow_right oM oM
 have h3:w * 2 ^ r <= 4294967295 * 2 ^ 31:=Nat.mul_le_mul oM h2
 have e3:((2:Int) ^ r) = ((2 ^ r:Nat):Int):=by rw [Int.natCast_pow]; rfl
 have hb:∀ x y:Int,bits .or .u32 x y = bits .or .u32 y x:=fun x y=>by simp only [bits,BitVec.or_comm]
 obtain ⟨s,h4,h5,h6⟩:=or32_shl w c r hr hc
 have hhi:w * 2 ^ r / 4294967296 < 2 ^ r:=Nat.div_lt_of_lt_mul (by have:0 < 2 ^ r:=Nat.pow_pos oM; exact Nat.mul_lt_mul_of_pos_right hw this)
 have e4:(w:Int) * 2 ^ r % 4294967296 = ((w * 2 ^ r % 4294967296:Nat):Int):=by rw [e3,<- Int.natCast_mul]; omega
 rw [e4] at h4
 refine ⟨w * 2 ^ r,w * 2 ^ r % 4294967296,w * 2 ^ r / 4294967296,s,?_,oM,oM,oM,oM,by rw [hb]; exact h4,oM,h6,oM,hhi,oM,oM⟩
 rw [e3,<- Int.natCast_mul,IntKind.wrap_u64]
 omega
theorem rNatShl_any (v:Value) (x n:Nat) (w:World) (h:IsNat w v x) (hn:wl x + n / 32 < 1099511627776) (hn2:n < 1125899906842624) :
  Calls Tryz.prog 167 #[v,.int .i64 (n:Int)] w (RetNat w (x * 2 ^ n)):=by
 rcases Nat.eq_zero_or_pos (wl x) with h0 | h0
 ·obtain rfl:=wl_eq_zero.1 h0
  obtain ⟨A,c,rfl,hc,hw⟩:=h
  rw [wl_zero] at *
  clear hw
  go_enter Tryz.func167,Tryz.ntmps167
  go_wp2
  go_ret
  exact ⟨_,rfl,IsNat.zero _ _ _,Below.refl _ _⟩
 ·have hl:(((wl x:Nat):Int) == 0) = false:=sO
  obtain ⟨q,hq⟩:∃ q,n / 32 = q:=⟨_,rfl⟩
  obtain ⟨r,hr⟩:∃ r,n % 32 = r:=⟨_,rfl⟩
  have hq1:(n:Int) / 32 = (q:Int):=oM
  have hr1:(n:Int) % 32 = (r:Int):=oM
  have hr2:r < 32:=oM
  have hr3:(r:Int).toNat = r:=oM
  have hfin:vs (dg x) (wl x) * 2 ^ r * 4294967296 ^ q = x * 2 ^ n:=by
   rw [vs_dg_wl,pow_words n,hq,hr,Nat.mul_assoc,Nat.mul_comm (2 ^ r)]
  have HF:=hid hfin
  have hfx:=Wd_dg x (wl x)
  obtain ⟨A,c,rfl,hc,hw⟩:=h
  have H:=hid hw
  rw [hq] at hn
  have HQ:=hid hq
  have HR:=hid hr
  clear hfin hw hq hr
  generalize hm:wl x = m at *
  clear hm
  have hmk:(Instr.makeSlice 30 (.int .i64 ((m:Int) + (q:Int) + 1)) (.int .i64 ((m:Int) + (q:Int) + 1))).run Tryz.prog w = .ok (.slice (some ⟨w.heap.size,0,none⟩) (m + q + 1) (m + q + 1)) (w.alloc (zrow (m + q + 1))):=make_words (m + q + 1) oM w
  have hrow0:=Row.zrow w (m + q + 1)
  obtain ⟨W1,hW1⟩:∃ W1,W1 = w.alloc (zrow (m + q + 1)):=⟨_,rfl⟩
  rw [<- hW1] at hmk hrow0
  have hB1:Below w.heap.size w W1:=by rw [hW1]; exact below_alloc _ _
  clear hW1
  have HRW:=hid hrow0; clear hrow0
  go_enter Tryz.func167,Tryz.ntmps167
  go_wp2
  go_loopw [6] (fun i wr=>∃ k:Nat,k <= m /\ i = .int .i64 k /\ ∃ f',Row wr w.heap.size (m + q + 1) f' /\ Wd f' (m + q + 1) /\ f' (k + q) < 2 ^ r /\ vs f' (k + q + 1) = vs (dg x) k * 2 ^ r * 4294967296 ^ q /\ Below w.heap.size w wr) (fun i _=>m - (intOf i).toNat)
  case atStart=>exact ⟨0,oM,rfl,_,HRW.out,Wd_zero _,Nat.pow_pos oM,by rw [vs_zeros (fun _ _=>rfl),vs_zero]; simp,hB1⟩
  case round =>
   obtain ⟨k,hk,rfl,f',hrow,hfw,hcc,hv,hg⟩:=hrel
   have HV:=hid hv; clear hv
   have HG:=hid hg; clear hg
   have HRO:=hid hrow; clear hrow
   have HC:=hid hcc; clear hcc
   by_cases hlt:k < m
   ·obtain ⟨b,o2,rfl,hb,hc1⟩:=H.out oM
    have hcell:=(HG.out.cell (p:=⟨b,o2 + k,none⟩) hb).trans (hc1 k hlt)
    have hz:=HRO.out.cell (j:=k + q) oM
    have hzf:=HRO.out.frozen (k + q)
    clear hc1
    have hw1:=hfx k hlt
    obtain ⟨X,lo,hi,s,e1,e2,e3,e4,e5,e6,e7,e8,e9,e10,e11,e12⟩:=u64_shl (dg x k) (f' (k + q)) r hr2 hw1 HC.out
    have hr1':=HRO.out.set_ (i:=k + q) oM s
    have hr2':=hr1'.set_ (i:=k + q + 1) oM hi
    have hz2:=HRO.out.cell (j:=k + q + 1) oM
    have hzf2:=HRO.out.frozen (k + q + 1)
    have HR2:=hid hr2'
    have HS:=hid e7
    have HL:=hid e9
    have HHI:=hid e10
    clear hr1' hr2' e7 e9 e10
    go_wp2
    go_roundw
    case rel=>exact ⟨k + 1,oM,by go_num,_,HR2.out,(hfw.upd _ e8).upd _ e11,by rw [show k + 1 + q = k + q + 1 by omega,upd_same]; exact HHI.out,by
      rw [show k + 1 + q + 1 = k + q + 1 + 1 by omega,shl_row HV.out HS.out HL.out,vs_succ,Nat.pow_add]
      generalize 2 ^ r = B1
      generalize 4294967296 ^ q = B2
      generalize 4294967296 ^ k = B3
      grind,(HG.out.setCell lR _).setCell lR _⟩
    case measure=>exact mS
   ·obtain rfl:k = m:=oM
    go_wp2_with (go_at_call 148; refine (rtrim_nat _ _ _ f' _ HRO.out.wn0 hfw oM oM).mono ?_; rintro e w' ⟨u,rfl,hu,rfl⟩)
    go_ret
    exact ⟨u,rfl,by rw [<- HF.out,<- HV.out]; exact hu,HG.out⟩
theorem shr_word (lo hi r:Nat) (hr:r < 32) (hl:lo < 4294967296):(hi * 4294967296 + lo) / 2 ^ r % 4294967296 = lo / 2 ^ r + hi * 2 ^ (32 - r) % 4294967296:=by
 have hp:=pow32 r oM
 have h1:0 < 2 ^ r:=Nat.pow_pos oM
 have h2:0 < 2 ^ (32 - r):=Nat.pow_pos oM
 have h3:lo / 2 ^ r < 2 ^ (32 - r):=Nat.div_lt_of_lt_mul (by rw [hp]; exact hl)
 generalize 2 ^ r = p at *
 generalize 2 ^ (32 - r) = s at *
 have e1:(hi * 4294967296 + lo) / p = lo / p + hi * s:=by
  rw [<- hp,Nat.add_comm,show hi * (p * s) = p * (hi * s) by rw [<- Nat.mul_assoc,Nat.mul_comm hi p,Nat.mul_assoc],Nat.add_mul_div_left _ _ h1]
 rw [e1,<- hp,Nat.mul_comm p s,Nat.mod_mul,Nat.mod_mul,Nat.add_mul_mod_self_right,Nat.mod_eq_of_lt h3,Nat.add_mul_div_right _ _ h2,Nat.div_eq_of_lt h3,Nat.zero_add,Nat.mul_mod_left,Nat.zero_add,Nat.mul_div_cancel _ h2]
theorem u64_shr (x q r k:Nat) (hr:r < 32):∃ X s:Nat,bits .or .u64 (dg x (k + q):Int) ((dg x (k + q + 1):Int) * 4294967296) = (X:Int) /\ X < 18446744073709551616 /\ (X:Int) / 2 ^ r % 4294967296 = (s:Int) /\ s = dg (x / 4294967296 ^ q / 2 ^ r) k /\ s < 4294967296:=by
 have h1:=dg_lt x (k + q)
 have h2:=dg_lt x (k + q + 1)
 have hb:∀ x y:Int,bits .or .u64 x y = bits .or .u64 y x:=fun x y=>by simp only [bits,BitVec.or_comm]
 refine ⟨dg x (k + q + 1) * 4294967296 + dg x (k + q),dg (x / 4294967296 ^ q / 2 ^ r) k,?_,oM,?_,rfl,dg_lt _ _⟩
 ·rw [hb,or64 _ _ h2 h1]; omega
 ·have e3:((2:Int) ^ r) = ((2 ^ r:Nat):Int):=by rw [Int.natCast_pow]; rfl
  rw [e3,<- Int.natCast_ediv]
  have:=shr_word (dg x (k + q)) (dg x (k + q + 1)) r hr h1
  rw [div_words _ _ _ _ hr,Nat.add_comm q k]
  omega
theorem vs_prefix {f:Nat -> Nat} {y M:Nat} (h:∀ j,j < M -> f j = dg y j) (hy:y < 4294967296 ^ M):vs f M = y:=by
 rw [vs_congr h,vs_dg,Nat.mod_eq_of_lt hy]
theorem rNatShr_any (v:Value) (x n:Nat) (w:World) (h:IsNat w v x) (hn:wl x < 1099511627776) (hn2:n < 1125899906842624) :
  Calls Tryz.prog 168 #[v,.int .i64 (n:Int)] w (RetNat w (x / 2 ^ n)):=by
 obtain ⟨q,hq⟩:∃ q,n / 32 = q:=⟨_,rfl⟩
 obtain ⟨r,hr⟩:∃ r,n % 32 = r:=⟨_,rfl⟩
 have hq1:(n:Int) / 32 = (q:Int):=oM
 have hr1:(n:Int) % 32 = (r:Int):=oM
 have hr2:r < 32:=oM
 have hr3:(r:Int).toNat = r:=oM
 have hfin:x / 4294967296 ^ q / 2 ^ r = x / 2 ^ n:=by
  rw [pow_words n,hq,hr,Nat.div_div_eq_div_mul]
 have hxl:=lt_wl x
 by_cases hle:wl x <= q
 ·have h0:x / 2 ^ n = 0:=by
   rw [<- hfin,Nat.div_eq_of_lt (lL hxl (pow_mono hle)),Nat.zero_div]
  rw [h0]
  obtain ⟨A,c,rfl,hc,hw⟩:=h
  clear hw hfin hxl h0
  generalize wl x = m at *
  have hq5:(m:Int) <= (q:Int):=oM
  go_enter Tryz.func168,Tryz.ntmps168
  go_wp2
  go_ret
  exact ⟨_,rfl,IsNat.zero _ _ _,Below.refl _ _⟩
 ·have hsm:x / 4294967296 ^ q / 2 ^ r < 4294967296 ^ (wl x - q):=by
   refine Nat.lt_of_le_of_lt (Nat.div_le_self _ _) (Nat.div_lt_of_lt_mul ?_)
   rw [<- Nat.pow_add,show q + (wl x - q) = wl x by omega]
   exact hxl
  have HF:=hid hfin
  have HSM:=hid hsm
  have hge:∀ j,wl x <= j -> dg x j = 0:=fun j hj=>dg_ge hj
  have HGE:=hid hge
  have hfx:=Wd_dg x (wl x)
  obtain ⟨A,c,rfl,hc,hw⟩:=h
  have H:=hid hw
  clear hfin hw hq hr hxl hsm hge
  generalize hm:wl x = m at *
  clear hm
  obtain ⟨M,rfl⟩:∃ M,m = M + q:=⟨m - q,oM⟩
  have hsub:M + q - q = M:=oM
  rw [hsub] at HSM
  have hmk:(Instr.makeSlice 30 (.int .i64 (M:Int)) (.int .i64 (M:Int))).run Tryz.prog w = .ok (.slice (some ⟨w.heap.size,0,none⟩) M M) (w.alloc (zrow M)):=make_words M oM w
  have hrow0:=Row.zrow w M
  obtain ⟨W1,hW1⟩:∃ W1,W1 = w.alloc (zrow M):=⟨_,rfl⟩
  rw [<- hW1] at hmk hrow0
  have hB1:Below w.heap.size w W1:=by rw [hW1]; exact below_alloc _ _
  clear hW1
  have HRW:=hid hrow0; clear hrow0
  have hwr:IntKind.i64.wrap ((M:Int) + (q:Int) - (q:Int)) = (M:Int):=by rw [IntKind.wrap_i64]; omega
  have hle2:decide ((M:Int) + (q:Int) <= (q:Int)) = false:=sO
  go_enter Tryz.func168,Tryz.ntmps168
  go_wp2
  go_loopw [6] (fun i wr=>∃ k:Nat,k <= M /\ i = .int .i64 k /\ ∃ f',Row wr w.heap.size M f' /\ Wd f' M /\ (∀ j,j < k -> f' j = dg (x / 4294967296 ^ q / 2 ^ r) j) /\ Below w.heap.size w wr) (fun i _=>M - (intOf i).toNat)
  case atStart=>exact ⟨0,oM,rfl,_,HRW.out,Wd_zero _,fun j hj=>oM,hB1⟩
  case round =>
   obtain ⟨k,hk,rfl,f',hrow,hfw,hv,hg⟩:=hrel
   have HV:=hid hv; clear hv
   have HG:=hid hg; clear hg
   have HRO:=hid hrow; clear hrow
   by_cases hlt:k < M
   ·obtain ⟨b,o2,rfl,hb,hc1⟩:=H.out oM
    have hcell:=(HG.out.cell (p:=⟨b,o2 + (k + q),none⟩) hb).trans (hc1 (k + q) oM)
    have hz:=HRO.out.cell (j:=k) oM
    have hzf:=HRO.out.frozen k
    obtain ⟨X,s,e1,e2,e3,e4,e5⟩:=u64_shr x q r k hr2
    have HS:=hid e4
    clear e4
    by_cases hl2:k + q + 1 < M + q
    ·have hcell2:=(HG.out.cell (p:=⟨b,o2 + (k + q + 1),none⟩) hb).trans (hc1 (k + q + 1) oM)
     clear hc1
     have hl3:decide ((k:Int) + (q:Int) + 1 < (M:Int) + (q:Int)) = true:=sO
     have hw1:=dg_lt x (k + q)
     have hw2:=dg_lt x (k + q + 1)
     go_wp2
     go_roundw
     case rel=>exact ⟨k + 1,oM,by go_num,upd f' k s,HRO.out.set_ oM s,hfw.upd _ e5,fun j hj=>by
      by_cases hjk:j = k
      ·subst hjk; rw [upd_same]; exact HS.out
      ·rw [upd_other _ _ hjk]; exact HV.out j oM,HG.out.setCell lR _⟩
     case measure=>exact mS
    ·clear hc1
     have hl3:decide ((k:Int) + (q:Int) + 1 < (M:Int) + (q:Int)) = false:=sO
     have hw1:=dg_lt x (k + q)
     have hz0:=HGE.out (k + q + 1) oM
     have e6:(dg x (k + q):Int) = (X:Int):=by
      rw [hz0] at e1
      rw [<- e1]
      show _ = bits .or .u64 _ ((0:Nat):Int)
      have hb:∀ x y:Int,bits .or .u64 x y = bits .or .u64 y x:=fun x y=>by simp only [bits,BitVec.or_comm]
      have:=or64 0 (dg x (k + q)) oM hw1
      rw [hb]
      simp at this ⊢
      exact this.symm
     rw [e6] at hcell
     clear e1
     go_wp2
     go_roundw
     case rel=>exact ⟨k + 1,oM,by go_num,upd f' k s,HRO.out.set_ oM s,hfw.upd _ e5,fun j hj=>by
      by_cases hjk:j = k
      ·subst hjk; rw [upd_same]; exact HS.out
      ·rw [upd_other _ _ hjk]; exact HV.out j oM,HG.out.setCell lR _⟩
     case measure=>exact mS
   ·obtain rfl:k = M:=oM
    go_wp2_with (go_at_call 148; refine (rtrim_nat _ _ _ f' _ HRO.out.wn0 hfw oM oM).mono ?_; rintro e w' ⟨u,rfl,hu,rfl⟩)
    go_ret
    exact ⟨u,rfl,by rw [<- HF.out,<- vs_prefix HV.out HSM.out]; exact hu,HG.out⟩
end Go.Proofs.YtffegeaflohfhaaGreatDoor
