import Derived.Deep.RegionHeld3
import Derived.Test.YtjodlmanheeajaaGreatDoorR05
import Derived.Test.YtjodlmanheeajaaGreatDoorR02
set_option linter.unusedVariables false
set_option linter.unusedSimpArgs false
set_option maxRecDepth 100000
set_option maxHeartbeats 8000000
namespace Go.Proofs.YtjodlmanheeajaaGreatDoor
open Go.RowKit
theorem guess_close {W V P X Y w' v' t Q:Nat} (hW:W = X * P + w') (hV:V = Y * P + v') (hv:v' < P) (hY:4294967296 <= Y) (ht:t * Y <= X) (htB:t < 4294967296)
  (hQ2:W < (Q + 1) * V) (hQt:Q <= t):t = Q ∨ t = Q + 1:=by
 rcases Nat.lt_or_ge t (Q + 2) with h | h
 ·omega
 ·exfalso
  obtain ⟨s,rfl⟩:∃ s,t = s + 1:=⟨t - 1,oM⟩
  have h1:(Q + 1) * V <= s * V:=Nat.mul_le_mul_right _ oM
  have h2:s * V <= W:=by
   have h3:s * v' <= 4294967296 * P:=Nat.mul_le_mul oM oM
   have h4:4294967296 * P <= Y * P:=Nat.mul_le_mul_right _ hY
   have h5:(s + 1) * Y * P <= X * P:=Nat.mul_le_mul_right _ ht
   rw [hV,hW,Nat.mul_add,<- Nat.mul_assoc]
   rw [Nat.add_mul,Nat.add_mul,Nat.one_mul] at h5
   omega
  omega
theorem guess_pre {W V P X Y w' v' Q:Nat} (hW:W = X * P + w') (hV:V = Y * P + v') (hw:w' < P) (hQ:Q * V <= W):Q * Y <= X:=by
 have h1:Q * Y * P <= Q * V:=by rw [hV,Nat.mul_add,Nat.mul_assoc]; omega
 have h2:Q * Y * P < (X + 1) * P:=by rw [Nat.add_mul,Nat.one_mul]; omega
 have:=Nat.lt_of_mul_lt_mul_right h2
 omega
theorem vs_top3 (f:Nat -> Nat) (n:Nat):vs f (n + 3) = ((f (n + 2) * 4294967296 + f (n + 1)) * 4294967296 + f n) * 4294967296 ^ n + vs f n:=by
 have e1:(4294967296:Nat) ^ (n + 1) = 4294967296 ^ n * 4294967296:=Nat.pow_succ ..
 have e2:(4294967296:Nat) ^ (n + 2) = 4294967296 ^ n * 4294967296 * 4294967296:=by rw [Nat.pow_succ,e1]
 rw [vs_succ,vs_succ,vs_succ,e2,e1]
 generalize 4294967296 ^ n = P
 grind
theorem vs_top2 (f:Nat -> Nat) (n:Nat):vs f (n + 2) = (f (n + 1) * 4294967296 + f n) * 4294967296 ^ n + vs f n:=by
 rw [vs_succ,vs_succ,Nat.pow_succ]
 generalize 4294967296 ^ n = P
 grind
theorem top_le {W V n x2 y1 r v:Nat} (hW:W = x2 * 4294967296 ^ (n + 2) + r) (hV:V = y1 * 4294967296 ^ (n + 1) + v) (hv:v < 4294967296 ^ (n + 1)) (h:W < V * 4294967296):x2 <= y1:=by
 rw [Nat.pow_succ] at hW
 generalize 4294967296 ^ (n + 1) = P at *
 have h1:x2 * P < (y1 + 1) * P:=by
  rw [Nat.add_mul,Nat.one_mul]
  rw [<- Nat.mul_assoc] at hW
  omega
 have:=Nat.lt_of_mul_lt_mul_right h1
 omega
theorem dec_cases {F1 V t W b P Q R:Nat} (hv:F1 + V * t = W + b * P) (hF:F1 < P) (hd:Q * V + R = W) (hR:R < V) (ht:t = Q ∨ t = Q + 1) (hb:b <= 1) :
  (b = 0 /\ t = Q /\ F1 = R) ∨ (b = 1 /\ t = Q + 1 /\ F1 + V = R + P):=by
 rcases ht with rfl | rfl
 ·rw [Nat.mul_comm] at hv
  rcases (show b = 0 ∨ b = 1 by omega) with rfl | rfl
  ·exact .inl ⟨rfl,rfl,oM⟩
  ·omega
 ·rw [Nat.mul_add,Nat.mul_comm] at hv
  rcases (show b = 0 ∨ b = 1 by omega) with rfl | rfl
  ·omega
  ·exact .inr ⟨rfl,rfl,oM⟩
theorem back_end {f1 f':Nat -> Nat} {off n s k cc R V:Nat} (hv:vs (fun j=>f' (off + j)) n + cc * 4294967296 ^ n = vs (fun j=>f1 (off + j)) n + V)
  (hs:s = (f' (off + n) + cc) % 4294967296) (hk:k = (f' (off + n) + cc) / 4294967296) (he:f' (off + n) = f1 (off + n)) (htot:vs (fun j=>f1 (off + j)) (n + 1) + V = R + 4294967296 ^ (n + 1))
  (hw:Wd (fun j=>upd f' (off + n) s (off + j)) (n + 1)) (hk1:k <= 1) :
  vs (fun j=>upd f' (off + n) s (off + j)) (n + 1) = R:=by
 have h1:s + k * 4294967296 = f1 (off + n) + cc:=by rw [<- he]; omega
 have hlt:=vs_lt hw
 have h2:vs (fun j=>upd f' (off + n) s (off + j)) (n + 1) + k * 4294967296 ^ (n + 1) = R + 4294967296 ^ (n + 1):=by
  rw [<- htot,vs_succ,vs_succ,vs_upd_off,upd_same,Nat.pow_succ]
  generalize 4294967296 ^ n = P at *
  grind
 rcases (show k = 0 ∨ k = 1 by omega) with rfl | rfl <;> omega
theorem divStep_any (g off n nx cx cy m:Nat) (f:Nat -> Nat) (A:Option Addr) (fy:Nat -> Nat) (w:World)
  (hr:Row w g m f) (hf:Wd f m) (hon:off + (n + 2) + 1 <= m) (hnx:nx = n + 3) (hy:Wn w A (n + 2) fy) (hfy:Wd fy (n + 2)) (hA:∀ a,A = some a -> a.block ≠ g) (hm:m <= 1099511627776)
  (htop:2147483648 <= fy (n + 1)) (hlt:vs (fun j=>f (off + j)) (n + 3) < vs fy (n + 2) * 4294967296) :
  Calls Tryz.prog 219 #[.slice (some ⟨g,off,none⟩) nx cx,.slice A (n + 2) cy] w fun e w'=>∃ f',e = .returned (.int .u32 ((vs (fun j=>f (off + j)) (n + 3) / vs fy (n + 2):Nat):Int)) /\ Row w' g m f' /\ Wd f' m /\
   (∀ j,j < off ∨ off + (n + 2) + 1 <= j -> f' j = f j) /\ vs (fun j=>f' (off + j)) (n + 3) = vs (fun j=>f (off + j)) (n + 3) % vs fy (n + 2) /\ w.grownBy w' (some g):=by
 subst hnx
 have HY:=hid hy
 have HA:=hid hA; clear hA
 have HR:=hid hr
 obtain ⟨b,o2,rfl,hb,hc⟩:=hy oM
 have hc1:=hc (n + 1) oM
 have hc0:=hc n oM
 have hz2:=hr.cell (j:=off + (n + 2)) oM
 have hz1:=hr.cell (j:=off + (n + 1)) oM
 have hz0:=hr.cell (j:=off + n) oM
 have hx2:=hf (off + (n + 2)) oM
 have hx1:=hf (off + (n + 1)) oM
 have hx0:=hf (off + n) oM
 have hy1:=hfy (n + 1) oM
 have hy0:=hfy n oM
 have hWe:=vs_top3 (fun j=>f (off + j)) n
 have hVe:=vs_top2 fy n
 have hv':=vs_lt (hfy.mono (m:=n) oM)
 have hw':=vs_lt (f:=fun j=>f (off + j)) (n:=n) (fun j hj=>hf (off + j) oM)
 have hle:f (off + (n + 2)) <= fy (n + 1):=top_le (n:=n) (vs_succ (fun j=>f (off + j)) (n + 2) |>.trans (Nat.add_comm _ _)) ((vs_succ fy (n + 1)).trans (Nat.add_comm _ _)) (vs_lt (hfy.mono oM)) hlt
 have hWlt:=vs_lt (f:=fun j=>f (off + j)) (n:=n + 3) (fun j hj=>hf (off + j) oM)
 have hVpos:0 < vs fy (n + 2):=by
  have:=vs_top (f:=fy) (n:=n + 2) oM sO
  have:=Nat.pow_pos (a:=4294967296) (n:=n + 2 - 1) oM
  omega
 generalize hWg:vs (fun j=>f (off + j)) (n + 3) = W at *
 generalize hVg:vs fy (n + 2) = V at *
 have hQ1:W / V * V <= W:=Nat.div_mul_le_self W V
 have hQ2:W < (W / V + 1) * V:=by have:=Nat.lt_succ_iff.1 (Nat.lt_succ_self W); rw [Nat.add_mul,Nat.one_mul]; have:=Nat.div_add_mod' W V; have:=Nat.mod_lt W hVpos; omega
 have hQB:W / V < 4294967296:=Nat.div_lt_of_lt_mul hlt
 have hpre:=guess_pre hWe hVe hw' hQ1
 have hclose:=fun t=>guess_close (t:=t) (Q:=W / V) hWe hVe hv' oM
 have hdm:=Nat.div_add_mod' W V
 have hml:=Nat.mod_lt W hVpos
 generalize W / V = Q at *
 generalize W % V = R at *
 have HWG:=hid hWg
 have HVG:=hid hVg
 have HC:=hid hclose
 have HPRE:=hid hpre
 have HDM:=hid hdm
 have HQ1:=hid hQ1
 have HQ2:=hid hQ2
 have HWlt:=hid hWlt
 have HLT:=hid hlt
 have HC2:=hid hc
 clear hWg hVg hclose hpre hdm hQ1 hQ2 hWlt hlt hc hWe hVe hv' hw' hr hy
 have a1:(0:Int) <= (n:Int) + 2:=oM
 have a2:(n:Int) + 2 < (n:Int) + 3:=oM
 have a3:(0:Int) <= (n:Int) + 1:=oM
 have a4:(n:Int) + 1 < (n:Int) + 3:=oM
 have a5:(n:Int) + 1 < (n:Int) + 2:=oM
 have a6:(0:Int) <= (n:Int):=oM
 have a7:(n:Int) < (n:Int) + 3:=oM
 have a8:(n:Int) < (n:Int) + 2:=oM
 have b1:IntKind.i64.wrap ((n:Int) + 2 - 1) = (n:Int) + 1:=by rw [IntKind.wrap_i64]; omega
 have b2:IntKind.i64.wrap ((n:Int) + 2 - 2) = (n:Int):=by rw [IntKind.wrap_i64]; omega
 have b5:IntKind.i64.wrap (n:Int) = (n:Int):=by rw [IntKind.wrap_i64]; omega
 have b6:(n:Int).toNat = n:=oM
 have b3:((n:Int) + 2).toNat = n + 2:=oM
 have b4:((n:Int) + 1).toNat = n + 1:=oM
 go_enter Tryz.func219,Tryz.ntmps219
 go_wp2_with fail
 go_region_held3 (fun w'=>w'.cell? ⟨g,off + (n + 2),none⟩ = some (.int .u32 (f (off + (n + 2)):Int)) /\ w'.cell? ⟨g,off + (n + 1),none⟩ = some (.int .u32 (f (off + (n + 1)):Int)) /\ w'.cell? ⟨g,off + n,none⟩ = some (.int .u32 (f (off + n):Int)) /\ w'.cell? ⟨b,o2 + (n + 1),none⟩ = some (.int .u32 (fy (n + 1):Int)) /\ w'.cell? ⟨b,o2 + n,none⟩ = some (.int .u32 (fy n:Int))) (go_keep) ((go_at_call 228; refine (guess_any _ _ _ _ _ _ hx2 hx1 hx0 hy1 hy0 htop hle Q HPRE.out hQB).mono ?_; rintro e w1 ⟨t,rfl,hQt,htB,htY,q,rfl⟩))
 go_wp2_with fail
 refine (decreaseBy_any g off (n + 2) (n + 3) cx cy t f m (some ⟨b,o2,none⟩) fy _ ?_ hf oM rfl ?_ hfy ?_ hm htB).mono ?_
 ·exact HR.out
 ·exact HY.out
 ·exact fun _=>HA.out
 rintro e w2 ⟨bb,f1,rfl,hb1,hr1,hf1,hk1,hv1,hg1⟩
 have hg0:w.grownBy w2 (some g):=⟨hg1.os,hg1.tape,hg1.output,hg1.size,hg1.block⟩
 have hv1':vs (fun j=>f1 (off + j)) (n + 3) + V * t = W + bb * 4294967296 ^ (n + 3):=by
  have h1:=hv1
  rw [HVG.out] at h1
  have h2:vs (fun j=>f (off + j)) (n + 2 + 1) = W:=HWG.out
  rw [h2] at h1
  exact h1
 have hf1lt:=vs_lt (f:=fun j=>f1 (off + j)) (n:=n + 3) (fun j hj=>hf1 (off + j) oM)
 have hcl:=HC.out t htY htB HQ2.out hQt
 have HG0:=hid hg0
 have HR1:=hid hr1
 have HK1:=hid hk1
 have hcs:=dec_cases hv1' hf1lt HDM.out hml hcl hb1
 clear hv1' hv1 hcl hf1lt hr1 hk1 hg1 hg0
 rcases hcs with ⟨rfl,rfl,hfin⟩ | ⟨rfl,rfl,hfin⟩
 ·have HF:=hid hfin
  clear hfin
  go_wp2
  go_ret
  exact ⟨f1,rfl,HR1.out,hf1,fun j hj=>HK1.out j oM,HF.out,HG0.out⟩
 ·have HF:=hid hfin
  clear hfin
  go_wp2
  go_loopw [7,45] (fun cv i wr=>∃ k cc:Nat,k <= n + 2 /\ i = .int .i64 k /\ cv = .int .u32 cc /\ cc <= 1 /\ ∃ f',Row wr g m f' /\ Wd f' m /\ (∀ j,j < off ∨ off + k <= j -> f' j = f1 j) /\
   vs (fun j=>f' (off + j)) k + cc * 4294967296 ^ k = vs (fun j=>f1 (off + j)) k + vs fy k /\ w2.grownBy wr (some g)) (fun _ i _=>n + 2 - (intOf i).toNat)
  case atStart=>exact ⟨0,0,oM,rfl,rfl,oM,f1,HR1.out,hf1,fun _ _=>rfl,by simp [vs_zero],grown_refl _ _⟩
  case round =>
   obtain ⟨k,cc,hk,rfl,rfl,hcc,f',hrow,hfw,hkeep,hv,hg⟩:=hrel
   have HV:=hid hv; clear hv
   have HK:=hid hkeep; clear hkeep
   have HG:=hid hg; clear hg
   have HRO:=hid hrow; clear hrow
   have hz:=HRO.out.cell (j:=off + k) oM
   have hzf:=HRO.out.frozen (off + k)
   have hw2:=hfw (off + k) oM
   by_cases hlt:k < n + 2
   ·obtain ⟨b3,o3,heq,hb3,hc3⟩:=((HY.out.grown HG0.out (fun a ha=>by have:=HA.out a ha; simp; omega)).grown HG.out (fun a ha=>by have:=HA.out a ha; simp; omega)) oM
    cases heq
    have hcell:=hc3 k hlt
    clear hc3
    have hw1:=hfy k hlt
    go_wp2_with (go_at_call 230; refine (add32_any _ _ _ _ hw2 hw1 hcc).mono ?_; rintro e w' ⟨s,kk,rfl,hs,hs1,hkk,rfl⟩; have HS:=hid hs; clear hs)
    go_roundw
    case rel=>exact ⟨k + 1,kk,oM,by go_num,rfl,hkk,upd f' (off + k) s,HRO.out.set_ oM s,hfw.upd _ hs1,fun j hj=>by rw [upd_other _ _ oM]; exact HK.out j oM,inc_step HV.out HS.out (HK.out _ oM),grown_trans HG.out (grown_set _ _ _ _)⟩
    case measure=>exact mS
   ·obtain rfl:k = n + 2:=oM
    go_wp2
    go_ret
    have hsl:(f' (off + (n + 2)) + cc) % 4294967296 < 4294967296:=Nat.mod_lt _ oM
    have hfw2:=hfw.upd (off + (n + 2)) hsl
    refine ⟨upd f' (off + (n + 2)) ((f' (off + (n + 2)) + cc) % 4294967296),rfl,HRO.out.set_ oM _,hfw2,fun j hj=>?_,?_,grown_trans HG0.out (grown_trans HG.out (grown_set _ _ _ _))⟩
    ·rw [upd_other _ _ oM,HK.out j oM]
     exact HK1.out j oM
    ·have hv:=HV.out
     rw [HVG.out] at hv
     exact back_end (n:=n + 2) hv rfl rfl (HK.out _ oM) HF.out (fun j hj=>hfw2 (off + j) oM) oM
theorem pow_two_words (n:Nat):(4294967296:Nat) ^ n = 2 ^ (n * 32):=by rw [Nat.mul_comm,Nat.pow_mul]
theorem norm_shift {y:Nat} (h:0 < wl y):wl (y * 2 ^ (32 - bl (dg y (wl y - 1)))) = wl y /\ 2147483648 <= dg (y * 2 ^ (32 - bl (dg y (wl y - 1)))) (wl y - 1) /\ 32 - bl (dg y (wl y - 1)) < 32:=by
 have hb:=bl_words h
 have ht:=top_dg h
 have h1:bl (dg y (wl y - 1)) <= 32:=bl_le (by have:=dg_lt y (wl y - 1); omega)
 have h2:1 <= bl (dg y (wl y - 1)):=by simp [bl,ht]
 generalize bl (dg y (wl y - 1)) = t at *
 have hlt:=lt_bl y
 have hle:=le_of_bl (x:=y) oM
 have hs:0 < 2 ^ (32 - t):=Nat.pow_pos oM
 have hu:y * 2 ^ (32 - t) < 4294967296 ^ wl y:=by
  rw [pow_two_words]
  have:y * 2 ^ (32 - t) < 2 ^ bl y * 2 ^ (32 - t):=Nat.mul_lt_mul_of_pos_right hlt hs
  rw [<- Nat.pow_add,show bl y + (32 - t) = wl y * 32 by omega] at this
  exact this
 have hl:4294967296 ^ (wl y - 1) * 2147483648 <= y * 2 ^ (32 - t):=by
  have:2 ^ (bl y - 1) * 2 ^ (32 - t) <= y * 2 ^ (32 - t):=Nat.mul_le_mul_right _ hle
  rw [<- Nat.pow_add,show bl y - 1 + (32 - t) = (wl y - 1) * 32 + 31 by omega,Nat.pow_add,<- pow_two_words] at this
  exact this
 have hp:0 < 4294967296 ^ (wl y - 1):=Nat.pow_pos oM
 refine ⟨?_,?_,oM⟩
 ·have a:=wl_le_of hu
  rcases Nat.lt_or_ge (wl (y * 2 ^ (32 - t))) (wl y) with hc | hc
  ·have:=wl_le_iff.1 (show wl (y * 2 ^ (32 - t)) <= wl y - 1 by omega)
   omega
  ·omega
 ·unfold dg
  have h3:y * 2 ^ (32 - t) / 4294967296 ^ (wl y - 1) < 4294967296:=Nat.div_lt_of_lt_mul (by rw [<- Nat.pow_succ,show (wl y - 1).succ = wl y by omega]; exact hu)
  rw [Nat.mod_eq_of_lt h3]
  exact (Nat.le_div_iff_mul_le hp).2 (by rw [Nat.mul_comm]; exact hl)
theorem high_zero {f:Nat -> Nat} {m n:Nat} (hm:m <= n) (h:vs f n < 4294967296 ^ m):∀ j,m <= j -> j < n -> f j = 0:=by
 intro j h1 h2
 rcases Nat.eq_zero_or_pos (f j) with h0 | h0
 ·exact h0
 ·exfalso
  obtain ⟨r,rfl⟩:∃ r,n = (j + 1) + r:=⟨n - (j + 1),oM⟩
  rw [vs_add,vs_succ] at h
  have h3:1 * 4294967296 ^ j <= f j * 4294967296 ^ j:=Nat.mul_le_mul_right _ h0
  have h4:=pow_mono h1
  omega
theorem long_step {X Q Y R W low B1 q r:Nat} (hX:X = Q * (B1 * 4294967296) * Y + R) (hR:R = low + B1 * W) (hW:q * Y + r = W) (hlow:low < B1) (hr:r < Y) :
  X = (q + 4294967296 * Q) * B1 * Y + (low + B1 * r) /\ low + B1 * r < Y * B1:=by
 refine ⟨?_,?_⟩
 ·subst hX hR hW
  grind
 ·have:B1 * (r + 1) <= B1 * Y:=Nat.mul_le_mul_left _ hr
  rw [Nat.mul_add,Nat.mul_one] at this
  rw [Nat.mul_comm Y]
  omega
theorem long_end {x y p Q R:Nat} (hp:0 < p) (h:x * p = Q * (y * p) + R) (hR:R < y * p):Q = x / y /\ R / p = x % y:=by
 have hy:0 < y:=Nat.pos_of_ne_zero fun e=>by subst e; simp at hR
 have h1:x * p / (y * p) = Q:=by
  rw [h,Nat.mul_comm Q,Nat.mul_add_div oM,Nat.div_eq_of_lt hR,Nat.add_zero]
 have h2:x * p % (y * p) = R:=by
  rw [h,Nat.mul_comm Q,Nat.mul_add_mod,Nat.mod_eq_of_lt hR]
 rw [Nat.mul_div_mul_right _ _ hp] at h1
 rw [Nat.mul_mod_mul_right] at h2
 exact ⟨h1.symm,by rw [<- h2,Nat.mul_div_cancel _ hp]⟩
theorem long_win {fr:Nat -> Nat} {Y k n nx:Nat} (hk:k + (n + 3) <= nx + 1) (hYB:Y < 4294967296 ^ (n + 2)) (hR:vs fr (nx + 1) < Y * 4294967296 ^ (k + 1)) :
  vs fr (nx + 1) = vs fr k + 4294967296 ^ k * vs (fun j=>fr (k + j)) (n + 3) /\ vs (fun j=>fr (k + j)) (n + 3) < Y * 4294967296 /\ ∀ j,k + (n + 3) <= j -> j < nx + 1 -> fr j = 0:=by
 have hb:vs fr (nx + 1) < 4294967296 ^ (k + (n + 3)):=by
  have h1:Y * 4294967296 ^ (k + 1) <= 4294967296 ^ (n + 2) * 4294967296 ^ (k + 1):=Nat.mul_le_mul_right _ (Nat.le_of_lt hYB)
  rw [<- Nat.pow_add,show n + 2 + (k + 1) = k + (n + 3) by omega] at h1
  omega
 have hz:=high_zero hk hb
 have e:=vs_drop (f:=fr) hk hz
 rw [vs_add fr k (n + 3)] at e
 refine ⟨e,?_,hz⟩
 rw [e,Nat.pow_succ] at hR
 have hp:0 < 4294967296 ^ k:=Nat.pow_pos oM
 generalize vs (fun j=>fr (k + j)) (n + 3) = W at *
 generalize 4294967296 ^ k = P at *
 have h2:P * W < P * (Y * 4294967296):=by
  rw [show P * (Y * 4294967296) = Y * (P * 4294967296) by grind]
  omega
 exact Nat.lt_of_mul_lt_mul_left h2
theorem long_round {fr f' fq:Nat -> Nat} {Y X k n nx m:Nat} (hk:k + (n + 3) <= nx + 1) (hfr:Wd fr (nx + 1)) (hYB:Y < 4294967296 ^ (n + 2)) (hY0:0 < Y)
  (hX:X = vs (fun j=>fq (k + 1 + j)) m * 4294967296 ^ (k + 1) * Y + vs fr (nx + 1)) (hR:vs fr (nx + 1) < Y * 4294967296 ^ (k + 1))
  (hkeep:∀ j,j < k ∨ k + (n + 2) + 1 <= j -> f' j = fr j) (hv:vs (fun j=>f' (k + j)) (n + 3) = vs (fun j=>fr (k + j)) (n + 3) % Y) :
  X = vs (fun j=>upd fq k (vs (fun j=>fr (k + j)) (n + 3) / Y) (k + j)) (m + 1) * 4294967296 ^ k * Y + vs f' (nx + 1) /\ vs f' (nx + 1) < Y * 4294967296 ^ k:=by
 obtain ⟨e,_,hz⟩:=long_win hk hYB hR
 have e':vs f' (nx + 1) = vs fr k + 4294967296 ^ k * (vs (fun j=>fr (k + j)) (n + 3) % Y):=by
  rw [vs_drop (f:=f') hk (fun j h1 h2=>by rw [hkeep j oM]; exact hz j h1 h2),vs_add,hv,vs_congr (f:=f') (g:=fr) (fun j hj=>hkeep j oM)]
 have hlow:=vs_lt (hfr.mono (show k <= nx + 1 by omega))
 rw [Nat.pow_succ] at hX
 have:=long_step (q:=vs (fun j=>fr (k + j)) (n + 3) / Y) (r:=vs (fun j=>fr (k + j)) (n + 3) % Y) hX e (Nat.div_add_mod' _ _) hlow (Nat.mod_lt _ hY0)
 rw [e',vs_cons,upd_same,vs_congr (f:=fun j=>upd fq k (vs (fun j=>fr (k + j)) (n + 3) / Y) (k + 1 + j)) (g:=fun j=>fq (k + 1 + j)) (fun j _=>upd_other _ _ oM)]
 exact this
def LongRel (w1:World) (g2 nx d X Y k:Nat) (wr:World):Prop :=
 ∃ fr fq,Row wr w1.heap.size (nx + 1) fr /\ Wd fr (nx + 1) /\ Row wr g2 (d + 1) fq /\ (∀ j,k <= j -> j < d + 1 -> fq j < 4294967296) /\
  X = vs (fun j=>fq (k + j)) (d + 1 - k) * 4294967296 ^ k * Y + vs fr (nx + 1) /\ vs fr (nx + 1) < Y * 4294967296 ^ k /\ Below w1.heap.size w1 wr
def RetTwo (w:World) (x y:Nat) (e:Ending) (w':World):Prop:=∃ v u,e = .returned (.tuple #[v,u]) /\ IsNat w' v x /\ IsNat w' u y /\ Below w.heap.size w w'
theorem divLong_any (v u:Value) (x y:Nat) (w:World) (hv:IsNat w v x) (hu:IsNat w u y) (hy2:2 <= wl y) (hle:y <= x) (hn:wl x < 549755813888) :
  Calls Tryz.prog 207 #[v,u] w (RetTwo w (x / y) (x % y)):=by
 have hnxy:=wl_mono hle
 have HU:=hid hu
 obtain ⟨hs1,hs2,hs3⟩:=norm_shift (y:=y) oM
 have htw:=dg_lt y (wl y - 1)
 obtain ⟨A,c,rfl,hc,hw⟩:=hv
 have H:=hid hw
 obtain ⟨A',c',rfl,hc',hw'⟩:=hu
 obtain ⟨b',o',rfl,hb',hcell'⟩:=hw' oM
 have hcy:=hcell' (wl y - 1) oM
 obtain ⟨n,hny⟩:∃ n,wl y = n + 2:=⟨wl y - 2,oM⟩
 rw [hny] at hcy htw hs1 hs2 hs3
 simp only [show n + 2 - 1 = n + 1 by omega] at hcy htw hs1 hs2 hs3
 generalize hsg:32 - bl (dg y (n + 1)) = s at *
 have HSG:=hid hsg
 have HS1:=hid hs1
 have HS2:=hid hs2
 have HNY:=hid hny
 obtain ⟨nx,hnx⟩:∃ nx,wl x = nx:=⟨_,rfl⟩
 have HNX:=hid hnx
 rw [hnx] at hn hnxy hc H ⊢
 rw [hny] at hnxy hc' HU ⊢
 clear hw hw' hcell' hsg hs1 hs2 hny hnx
 go_enter Tryz.func207,Tryz.ntmps207
 go_wp2_with fail
 refine (lz32_any _ _ htw).mono ?_
 rintro e w1 ⟨rfl,rfl⟩
 rw [HSG.out]
 go_wp2_with fail
 refine (up_any _ y s _ HU.out (by rw [HNY.out]; omega) oM).mono ?_
 rintro e w1 ⟨vy,rfl,hvy,hb1⟩
 obtain ⟨Ay,cy,rfl,hcy2,hwy⟩:=hvy
 have hnY:=HS1.out
 rw [hnY] at hcy2 hwy ⊢
 have hYt:=HS2.out
 have HB1:=hid hb1
 have HWY:=hid hwy
 have HX1:=hid (H.out.below hb1)
 have hXY:x * 2 ^ s < y * 2 ^ s * 4294967296 ^ (nx - (n + 2) + 1):=by
  have h1:x < 4294967296 ^ nx:=by rw [<- HNX.out]; exact lt_wl x
  have h2:2147483648 * 4294967296 ^ (n + 1) <= y * 2 ^ s:=by
   have h3:=vs_dg_wl (y * 2 ^ s)
   rw [HS1.out,vs_succ] at h3
   have h4:2147483648 * 4294967296 ^ (n + 1) <= dg (y * 2 ^ s) (n + 1) * 4294967296 ^ (n + 1):=Nat.mul_le_mul_right _ HS2.out
   omega
  have h5:(2:Nat) ^ s <= 2 ^ 31:=Nat.pow_le_pow_right oM oM
  have h6:x * 2 ^ s < 4294967296 ^ nx * 2147483648:=lL (Nat.mul_lt_mul_of_pos_right h1 (Nat.pow_pos oM)) (Nat.mul_le_mul_left _ h5)
  have h7:2147483648 * 4294967296 ^ (n + 1) * 4294967296 ^ (nx - (n + 2) + 1) <= y * 2 ^ s * 4294967296 ^ (nx - (n + 2) + 1):=Nat.mul_le_mul_right _ h2
  rw [Nat.mul_assoc,<- Nat.pow_add,show n + 1 + (nx - (n + 2) + 1) = nx by omega] at h7
  omega
 have hvY:vs (dg (y * 2 ^ s)) (n + 2) = y * 2 ^ s:=by
  have h3:=vs_dg_wl (y * 2 ^ s)
  rw [HS1.out] at h3
  exact h3
 have hYB:y * 2 ^ s < 4294967296 ^ (n + 2):=by
  have h3:=lt_wl (y * 2 ^ s)
  rw [HS1.out] at h3
  exact h3
 have hY0:0 < y * 2 ^ s:=by
  rcases Nat.eq_zero_or_pos (y * 2 ^ s) with h | h
  ·have h3:=HS1.out
   rw [h,wl_zero] at h3
   omega
  ·exact h
 have HVY:=hid hvY
 have HYB:=hid hYB
 have HY0:=hid hY0
 clear hvY hYB hY0
 have hpos:0 < 2 ^ s:=Nat.pow_pos oM
 have HXY:=hid hXY
 have hmk1:=make_nat1 nx oM
 have hmk2:=make_nat1 (nx - (n + 2)) oM
 obtain ⟨d,hd⟩:∃ d,nx - (n + 2) = d:=⟨_,rfl⟩
 have hd1:n + 2 + d <= nx:=oM
 have hd2:nx <= n + 2 + d:=oM
 rw [hd] at hmk2
 have HD:=hid hd
 have hdi:(nx:Int) - ((n:Int) + 2) = (d:Int):=oM
 generalize hYg:y * 2 ^ s = Y at *
 have HYG:=hid hYg
 rw [hd] at HXY
 clear hb1 hwy hXY hYg hnY hd
 go_wp2_with fail
 refine (shiftInto_any w1.heap.size 0 (nx + 1) (nx + 1) (nx + 1) s c (fun _=>0) A (dg x) nx (w1.alloc (zrow (nx + 1))) (Row.zrow _ _) (Wd_zero _) oM oM (HX1.out.below (below_alloc _ _)) (Wd_dg _ _) ?_ oM hs3).mono ?_
 ·intro a ha
  obtain ⟨b,o,rfl,hlt,_⟩:=HX1.out oM
  cases ha
  simp; omega
 rintro e w2 ⟨rfl,f2,hr2,hf2,_,hv2,hg2⟩
 simp only [Nat.zero_add] at hv2
 have hv2':vs f2 (nx + 1) = x * 2 ^ s:=by
  rw [hv2,show vs (dg x) nx = x by rw [<- HNX.out]; exact vs_dg_wl x]
 have HV2:=hid hv2'
 have HR2:=hid hr2
 have HB2:=hid ((below_alloc w1 (zrow (nx + 1))).grown hg2 sP (fun k hk=>by cases hk; exact Nat.le_refl _))
 have HF2:=hid hf2
 clear hv2 hv2' hr2 hg2 hf2
 go_wp2_with fail
 have hs12:w1.heap.size < w2.heap.size:=HR2.out.lt
 go_loopw [9] (fun i wr=>∃ k:Nat,k <= d + 1 /\ i = .int .i64 ((k:Int) - 1) /\ LongRel w1 w2.heap.size nx d (x * 2 ^ s) Y k wr) (fun i _=>(intOf i + 1).toNat)
 case atStart=>exact ⟨d + 1,oM,by go_num,f2,_,HR2.out.below (below_alloc _ _) hs12,HF2.out,Row.zrow w2 (d + 1),fun j h1 h2=>oM,by rw [Nat.sub_self,vs_zero,HV2.out]; simp,by rw [HV2.out]; exact HXY.out,HB2.out.trans ((below_alloc w2 _).mono oM)⟩
 case round =>
  obtain ⟨k,hk,rfl,fr,fq,hrow1,hfr,hrow2,hfq,hX,hR,hb⟩:=hrel
  have HRo1:=hid hrow1
  have HRo2:=hid hrow2
  have HFQ:=hid hfq
  have HXX:=hid hX
  have HRR:=hid hR
  have HB:=hid hb
  clear hrow1 hrow2 hfq hX hR hb
  rcases Nat.eq_zero_or_pos k with h0 | h0
  ·subst h0
   have hfin:=long_end (x:=x) (y:=y) (p:=2 ^ s) (Q:=vs fq (d + 1)) (R:=vs fr (nx + 1)) hpos (by
    have:=HXX.out
    simp only [Nat.zero_add,Nat.sub_zero,Nat.pow_zero,Nat.mul_one] at this
    rw [HYG.out]; exact this) (by have:=HRR.out; rw [Nat.pow_zero,Nat.mul_one] at this; rw [HYG.out]; exact this)
   have HF:=hid hfin
   clear hfin
   go_wp2_with fail
   refine (trim_nat _ _ _ fq _ HRo2.out.wn0 (fun j hj=>HFQ.out j oM hj) oM oM).mono ?_
   rintro e w4 ⟨vq,rfl,hvq,rfl⟩
   have HVQ:=hid hvq
   clear hvq
   go_wp2_with fail
   refine (trim_nat _ _ _ fr _ HRo1.out.wn0 hfr oM oM).mono ?_
   rintro e w5 ⟨vr,rfl,hvr,rfl⟩
   have HVR:=hid hvr
   clear hvr
   have hwr:wl (vs fr (nx + 1)) <= nx + 1:=wl_le_of (vs_lt hfr)
   go_wp2_with fail
   refine (down_any _ _ s _ HVR.out oM oM).mono ?_
   rintro e w6 ⟨vm,rfl,hvm,hb6⟩
   have HVM:=hid hvm
   have HB6:=hid hb6
   clear hvm hb6
   have hb3:Below w.heap.size w wr:=HB1.out.trans (HB.out.mono HB1.out.size)
   have HB3:=hid hb3
   clear hb3
   go_wp2
   go_ret2
   exact ⟨vq,vm,rfl,by rw [<- HF.out.1]; exact HVQ.out.below HB6.out,by rw [<- HF.out.2]; exact HVM.out,bT HB3.out HB6.out⟩
  ·obtain ⟨k2,rfl⟩:∃ k2,k = k2 + 1:=⟨k - 1,oM⟩
   obtain ⟨hwe,hwlt,_⟩:=long_win (n:=n) oM HYB.out HRR.out
   have HWLT:=hid hwlt
   clear hwe hwlt
   have hne:w2.heap.size ≠ w1.heap.size:=oM
   have HNE:=hid hne
   clear hne
   go_wp2_with fail
   refine (divStep_any w1.heap.size k2 n _ _ cy (nx + 1) fr Ay (dg Y) wr HRo1.out hfr oM oM (HWY.out.below HB.out) (Wd_dg _ _) ?_ oM hYt (by rw [HVY.out]; exact HWLT.out)).mono ?_
   ·intro a ha
    obtain ⟨b,o,hAe,hlt,_⟩:=HWY.out oM
    rw [ha] at hAe
    cases hAe
    simp; omega
   rintro e w3 ⟨f',rfl,hr3,hf3,hk3,hv3,hg3⟩
   rw [HVY.out] at hv3 ⊢
   have hX':=HXX.out
   rw [show d + 1 - (k2 + 1) = d - k2 by omega] at hX'
   have hlr:=long_round (n:=n) (nx:=nx) oM hfr HYB.out HY0.out hX' HRR.out hk3 hv3
   clear hX'
   have hq:vs (fun j=>fr (k2 + j)) (n + 3) / Y < 4294967296:=Nat.div_lt_of_lt_mul HWLT.out
   obtain ⟨q0,hq0⟩:∃ q0,vs (fun j=>fr (k2 + j)) (n + 3) / Y = q0:=⟨_,rfl⟩
   rw [hq0] at hlr hq ⊢
   clear hq0
   have hrow2:=HRo2.out.grown hg3 (by simpa using HNE.out)
   have hz:=hrow2.cell (j:=k2) oM
   have hzf:=hrow2.frozen k2
   have HLR:=hid hlr
   have HR3:=hid hr3
   have HRW2:=hid hrow2
   have HB3:=hid (HB.out.grown hg3 HB.out.size (fun k hk=>by cases hk; exact Nat.le_refl _))
   clear hlr hr3 hrow2 hg3 hv3 hk3
   go_wp2
   go_roundw
   case rel=>exact ⟨k2,oM,by go_num,f',upd fq k2 q0,HR3.out.keep (Below.heap_setCell _ _ _ _ (fun h=>HNE.out h.symm)),hf3,HRW2.out.set_ oM q0,fun j h1 h2=>by
     unfold upd
     split
     ·exact hq
     ·exact HFQ.out j oM h2,by rw [show d + 1 - k2 = d - k2 + 1 by omega]; exact HLR.out.1,HLR.out.2,HB3.out.setCell (Nat.le_of_lt hs12) _⟩
   case measure=>simp [intOf]
theorem div_any (v u:Value) (x y:Nat) (w:World) (hv:IsNat w v x) (hu:IsNat w u y) (hy:0 < y) (hn:wl x < 549755813888) (hm:wl y < 549755813888) :
  Calls Tryz.prog 184 #[v,u] w (RetTwo w (x / y) (x % y)):=by
 have HV:=hid hv
 have HU:=hid hu
 have HI:=hid (isOne_any u y w hu)
 by_cases h1:y = 1
 ·have hd:decide (y = 1) = true:=by simp [h1]
  rw [hd] at HI
  rw [h1,Nat.div_one,Nat.mod_one]
  clear hd hv hu h1
  go_enter Tryz.func184,Tryz.ntmps184
  go_wp2_with fail
  refine HI.out.mono ?_
  rintro e w1 ⟨rfl,rfl⟩
  go_wp2
  go_ret2
  exact ⟨v,_,rfl,HV.out,IsNat.zero _ _ _,Below.refl _ _⟩
 have hd:decide (y = 1) = false:=by simp [h1]
 rw [hd] at HI
 clear hd
 by_cases hlt:x < y
 ·have hc:=compare_any v u x y w hv hu oM oM
  rw [show cmpN x y = -1 by simp [cmpN,hlt]] at hc
  have HC:=hid hc
  rw [Nat.div_eq_of_lt hlt,Nat.mod_eq_of_lt hlt]
  clear hc hv hu h1
  go_enter Tryz.func184,Tryz.ntmps184
  go_wp2_with fail
  refine HI.out.mono ?_
  rintro e w1 ⟨rfl,rfl⟩
  go_wp2_with fail
  refine HC.out.mono ?_
  rintro e w1 ⟨rfl,q,rfl⟩
  go_wp2
  go_ret2
  exact ⟨_,v,rfl,IsNat.zero _ _ _,HV.out.drewN q,below_drewN _ _⟩
 have hcmp:cmpN x y = 0 ∨ cmpN x y = 1:=by
  unfold cmpN
  rw [if_neg hlt]
  split
  ·exact .inl rfl
  ·exact .inr rfl
 have hc0:decide (cmpN x y < 0) = false:=by rcases hcmp with h | h <;> rw [h] <;> rfl
 have HC:=hid (compare_any v u x y w hv hu oM oM)
 clear hcmp
 generalize cmpN x y = cm at *
 by_cases hs:x < 18446744073709551616
 ·have hys:y < 18446744073709551616:=oM
  have hsx:=fun w (h:IsNat w v x)=>small_any v x w h
  have hsy:=fun w (h:IsNat w u y)=>small_any u y w h
  rw [if_pos hs,decide_eq_true hs] at hsx
  rw [if_pos hys,decide_eq_true hys] at hsy
  have HSX:=hid hsx
  have HSY:=hid hsy
  have hq1:IntKind.u64.wrap ((x:Int) / (y:Int)) = ((x / y:Nat):Int):=by rw [<- Int.natCast_ediv,IntKind.wrap_u64]; have:=Nat.div_le_self x y; revert this; generalize x / y = t; intro ha; omega
  have hr1:(x:Int) % (y:Int) = ((x % y:Nat):Int):=by rw [<- Int.natCast_emod]
  have hy0:((y:Int) == 0) = false:=sO
  have ht1:(x:Int).tdiv (y:Int) = ((x / y:Nat):Int):=by rw [Int.tdiv_eq_ediv_of_nonneg oM]; rfl
  have ht2:(x:Int).tmod (y:Int) = ((x % y:Nat):Int):=by rw [Int.tmod_eq_emod_of_nonneg oM]; rfl
  have hyn:¬ y = 0:=oM
  have hdl:x / y < 18446744073709551616:=by have:=Nat.div_le_self x y; omega
  have hml:x % y < 18446744073709551616:=by have:=Nat.mod_le x y; omega
  generalize x / y = dq at *
  generalize x % y = dr at *
  clear hsx hsy hv hu h1 hlt
  go_enter Tryz.func184,Tryz.ntmps184
  go_wp2_with fail
  refine HI.out.mono ?_
  rintro e w1 ⟨rfl,rfl⟩
  go_wp2_with fail
  refine HC.out.mono ?_
  rintro e w1 ⟨rfl,q,rfl⟩
  go_wp2_with fail
  refine (HSX.out _ (HV.out.drewN q)).mono ?_
  rintro e w1 ⟨rfl,q2,rfl⟩
  go_wp2_with fail
  refine (HSY.out _ (HU.out.drewN _)).mono ?_
  rintro e w1 ⟨rfl,q3,rfl⟩
  go_wp2_with fail
  have hwq:IntKind.u64.wrap (dq:Int) = (dq:Int):=by rw [IntKind.wrap_u64]; omega
  have hwr:IntKind.u64.wrap (dr:Int) = (dr:Int):=by rw [IntKind.wrap_u64]; omega
  have HD:=hid (fun W=>fromUint_any dq W hdl)
  have HM:=hid (fun W=>fromUint_any dr W hml)
  go_region_held3 (fun _=>True) (trivial) (first | (go_at_call 146; (with_reducible refine (HD.out _).mono ?_); rintro e wa ⟨va,rfl,hva,hba⟩) | (go_at_call 146; (with_reducible refine (HM.out _).mono ?_); rintro e wb ⟨vb,rfl,hvb,hbb⟩))
  go_wp2
  go_ret2
  exact ⟨va,vb,rfl,hva.below hbb,hvb,bT (below_drewN w (q + q2 + q3 + 1)) (bT hba hbb)⟩
 ·have hsx:=fun w (h:IsNat w v x)=>small_any v x w h
  rw [if_neg hs,decide_eq_false hs] at hsx
  have HSX:=hid hsx
  have hwx:2 < wl x:=by
   rcases Nat.lt_or_ge 2 (wl x) with h | h
   ·exact h
   ·have:=lt_of_wl_two h; omega
  clear hsx
  by_cases hl1:wl y = 1
  ·have hvy:=vs_dg_wl y
   rw [hl1,vs_one] at hvy
   have hyd:y < 4294967296:=by rw [<- hvy]; exact dg_lt _ _
   obtain ⟨A,c,rfl,hc,hw⟩:=hv
   obtain ⟨A',c',rfl,hc',hw'⟩:=hu
   obtain ⟨b',o',rfl,hb',hcell'⟩:=hw' oM
   have hcy:=hcell' 0 oM
   rw [hvy,Nat.add_zero] at hcy
   have HW:=hid hw
   rw [hl1] at *
   have hmk:=make_nat (wl x) oM
   have HX:=hid (vs_dg_wl x)
   clear hw hw' hcell' hvy hl1 hs hlt h1
   generalize hnx:wl x = nx at *
   clear hnx
   have hcy2:∀ k,((w.drewN k).alloc (zrow nx)).cell? ⟨b',o',none⟩ = some (.int .u32 (y:Int)):=fun k=>(((below_drewN w k).alloc lR (zrow nx)).cell (p:=⟨b',o',none⟩) hb').trans hcy
   go_enter Tryz.func184,Tryz.ntmps184
   go_wp2_with fail
   refine HI.out.mono ?_
   rintro e w1 ⟨rfl,rfl⟩
   go_wp2_with fail
   refine HC.out.mono ?_
   rintro e w1 ⟨rfl,q,rfl⟩
   go_wp2_with fail
   refine (HSX.out _ (HV.out.drewN q)).mono ?_
   rintro e w1 ⟨rfl,q2,rfl⟩
   go_wp2_with fail
   refine (divWord_any w.heap.size nx nx c y (fun _=>0) A (dg x) _ (Row.zrow (w.drewN (q + q2)) nx) (HW.out.below ((below_drewN w (q + q2)).alloc lR _)) (Wd_dg _ _) ?_ oM hy hyd).mono ?_
   ·intro _ a ha
    obtain ⟨b,o,hAe,hlt,_⟩:=HW.out oM
    rw [ha] at hAe
    cases hAe
    simp; omega
   rintro e w2 ⟨r,f2,rfl,hr2,hf2,hv2,hrl,hg2⟩
   rw [HX.out] at hv2
   have hq:vs f2 nx = x / y:=by
    rw [hv2,Nat.mul_comm,Nat.mul_add_div hy,Nat.div_eq_of_lt hrl,Nat.add_zero]
   have hr:r = x % y:=by
    rw [hv2,Nat.mul_comm,Nat.mul_add_mod,Nat.mod_eq_of_lt hrl]
   have HQ:=hid hq
   have HRR:=hid hr
   have HR2:=hid hr2
   have HB2:=hid (((below_drewN w (q + q2)).alloc lR (zrow nx)).grown hg2 sP (fun k hk=>by cases hk; exact Nat.le_refl _))
   clear hv2 hq hr hr2 hg2
   go_wp2_with fail
   refine (trim_nat _ _ _ f2 _ HR2.out.wn0 hf2 oM oM).mono ?_
   rintro e w3 ⟨vq,rfl,hvq,rfl⟩
   have HVQ:=hid hvq
   clear hvq
   go_wp2_with fail
   refine (fromUint_any r _ oM).mono ?_
   rintro e w4 ⟨vr,rfl,hvr,hb4⟩
   have HVR:=hid hvr
   have HB4:=hid hb4
   clear hvr hb4
   go_wp2
   go_ret2
   exact ⟨vq,vr,rfl,by rw [<- HQ.out]; exact HVQ.out.below HB4.out,by rw [<- HRR.out]; exact HVR.out,bT HB2.out HB4.out⟩
  ·have hwy:2 <= wl y:=by
    have:wl y ≠ 0:=fun e=>by have:=wl_eq_zero.1 e; omega
    omega
   have HL:=hid (fun W (h1:IsNat W v x) (h2:IsNat W u y)=>divLong_any v u x y W h1 h2 hwy oM hn)
   obtain ⟨A',n',c',rfl,hnn⟩:=hu.ex
   have hl:((n':Int) == 1) = false:=sO
   have HNN:=hid hnn
   clear hnn hv hu hl1 h1 hlt hs
   go_enter Tryz.func184,Tryz.ntmps184
   go_wp2_with fail
   refine HI.out.mono ?_
   rintro e w1 ⟨rfl,rfl⟩
   go_wp2_with fail
   refine HC.out.mono ?_
   rintro e w1 ⟨rfl,q,rfl⟩
   go_wp2_with fail
   refine (HSX.out _ (HV.out.drewN q)).mono ?_
   rintro e w1 ⟨rfl,q2,rfl⟩
   go_wp2_with fail
   refine (HL.out _ (HV.out.drewN _) (HU.out.drewN _)).mono ?_
   rintro e w2 ⟨vq,vr,rfl,hvq,hvr,hb⟩
   have HVQ:=hid hvq
   have HVR:=hid hvr
   have HB:=hid hb
   clear hvq hvr hb
   go_wp2
   go_ret2
   exact ⟨vq,vr,rfl,HVQ.out,HVR.out,bT (below_drewN w _) HB.out⟩
theorem exact_any (v u:Value) (x y:Nat) (w:World) (hv:IsNat w v x) (hu:IsNat w u y) (hy:0 < y) (hn:wl x < 549755813888) (hm:wl y < 549755813888) (hT:Tab w) :
  Calls Tryz.prog 190 #[v,u] w (RetNat w (x / y)):=by
 have HV:=hid hv
 have HU:=hid hu
 have HI:=hid (isPower_any u y w hu oM hT)
 have HT:=hid hT
 cases hp:isPow y with
 | true =>
  rw [hp] at HI
  obtain ⟨t,ht⟩:=isPow_iff.1 hp
  have HTW:=hid (fun q=>twos_any u y (w.drewN q) (HU.out.drewN q) oM oM (HT.out.drewN q))
  have h2:Twos y t:=⟨0,by rw [ht]; omega⟩
  have HT2:=hid h2
  have HTT:=hid ht
  clear hp hv hu hT ht h2
  go_enter Tryz.func190,Tryz.ntmps190
  go_wp2_with fail
  refine HI.out.mono ?_
  rintro e w1 ⟨rfl,q,rfl⟩
  go_wp2_with fail
  refine (HTW.out q).mono ?_
  rintro e w1 ⟨t',rfl,ht',htl,rfl⟩
  obtain rfl:=twos_unique ht' HT2.out
  clear ht'
  go_wp2_with fail
  refine (down_any v x t' _ (HV.out.drewN q) oM oM).mono ?_
  rintro e w2 ⟨vr,rfl,hvr,hb⟩
  have HVR:=hid hvr
  have HB:=hid hb
  clear hvr hb
  go_wp2
  go_ret
  exact ⟨vr,rfl,by rw [HTT.out]; exact HVR.out,bT (below_drewN w q) HB.out⟩
 | false =>
  rw [hp] at HI
  clear hp hv hu hT
  go_enter Tryz.func190,Tryz.ntmps190
  go_wp2_with fail
  refine HI.out.mono ?_
  rintro e w1 ⟨rfl,q,rfl⟩
  go_wp2_with fail
  refine (div_any v u x y _ (HV.out.drewN q) (HU.out.drewN q) hy hn hm).mono ?_
  rintro e w2 ⟨vq,vr,rfl,hvq,hvr,hb⟩
  have HVQ:=hid hvq
  have HB:=hid hb
  clear hvq hvr hb
  go_wp2
  go_ret
  exact ⟨vq,rfl,HVQ.out,bT (below_drewN w q) HB.out⟩
end Go.Proofs.YtjodlmanheeajaaGreatDoor
