import Derived.Deep.CutBlock
import Derived.Deep.CutRange
import Derived.Laws.BitsAllLaws
import Derived.Test.YtffegeaflohfhaaGreatDoorS06
import Derived.Test.YtffegeaflohfhaaGreatDoorS32
import Derived.Test.YtffegeaflohfhaaGreatDoorS02
set_option linter.unusedVariables false
set_option linter.unusedSimpArgs false
set_option maxRecDepth 100000
set_option maxHeartbeats 8000000
namespace Go.Proofs.YtffegeaflohfhaaGreatDoor
open Go.RowKit
theorem sub64 (u p b:Nat) (hu:u < 4294967296) (hp:p < 4294967296) (hb:b <= 1):∃ X d b':Nat,IntKind.u64.wrap (IntKind.u64.wrap ((u:Int) - (p:Int)) - (b:Int)) = (X:Int) /\ (X:Int) % 4294967296 = (d:Int) /\ (X:Int) / 9223372036854775808 = (b':Int) /\
  d + p + b = u + b' * 4294967296 /\ d < 4294967296 /\ b' <= 1 /\ X < 18446744073709551616:=by
 by_cases h:p + b <= u
 ·exact ⟨u - p - b,u - p - b,0,by rw [IntKind.wrap_u64,IntKind.wrap_u64]; omega,oM,oM,oM,oM,oM,oM⟩
 ·exact ⟨18446744073709551616 + u - p - b,4294967296 + u - p - b,1,by rw [IntKind.wrap_u64,IntKind.wrap_u64]; omega,oM,oM,oM,oM,oM,oM⟩
theorem and32 (a:Nat) (h:a < 18446744073709551616):bits .and .u64 (a:Int) 4294967295 = ((a % 4294967296:Nat):Int):=by
 have:=u64_and_nat a 4294967295 h oM
 have e:(4294967295:Nat) = 2 ^ 32 - 1:=rfl
 rw [e,Nat.and_two_pow_sub_one_eq_mod] at this
 exact this
theorem copy_words (w:World) (g off dn dc sn sc m k:Nat) (A:Option Addr) (f f':Nat -> Nat) (hr:Row w g m f) (hw:Wn w A k f') (hk:k = min sn dn) (hfit:off + k <= m) :
  ∃ w',(Builtin.copy_ #[30,30] 3 #[.slice (some ⟨g,off,none⟩) dn dc,.slice A sn sc]).run Tryz.prog w = .ok (.int .i64 (k:Int)) w' /\
   Row w' g m (cpy f off f' k) /\ w.grownBy w' (some g):=by
 rcases Nat.eq_zero_or_pos k with h0 | h0
 ·subst h0
  refine ⟨w,?_,hr.congr fun j _=>by unfold cpy; rw [if_neg oM],grown_refl _ _⟩
  exact run_copy_none (P:=Tryz.prog) w 30 30 3 136 _ A dn dc sn sc Tryz.underlying30 info_u32 hk.symm
 obtain ⟨cs,hg,hsz,hc⟩:=hr
 obtain ⟨b,o2,rfl,hlt,hcell⟩:=hw h0
 have hlen:((List.range k).map fun j=>Value.int .u32 (f' j:Int)).length = k:=sP
 have hrun:=run_copy_row Tryz.prog w 30 30 3 136 g off dn dc ⟨b,o2,none⟩ sn sc cs 136 ((List.range k).map fun j=>Value.int .u32 (f' j:Int)) Tryz.underlying30 info_u32 hg (by rw [hlen]; exact hk) ?_ (by rw [hlen]; omega) ?_
 ·rw [hlen] at hrun
  refine ⟨_,hrun,⟨_,setRow_heap w g _ _ _ _ hg,?_,fun j hj=>?_⟩,setRow_grown _ _ _⟩
  ·simp; omega
  ·rw [List.getElem?_toArray]
   unfold cpy
   by_cases h1:j < off
   ·rw [List.append_assoc,List.getElem?_append_left sO,List.getElem?_take,if_pos h1,if_neg oM]
    simpa using hc j hj
   ·rw [List.append_assoc,List.getElem?_append_right sO]
    have e1:(cs.toList.take off).length = off:=sO
    rw [e1]
    by_cases h2:j < off + k
    ·rw [List.getElem?_append_left (by rw [hlen]; omega),List.getElem?_map,List.getElem?_range oM,if_pos oM]
     rfl
    ·rw [List.getElem?_append_right (by rw [hlen]; omega),hlen,List.getElem?_drop,if_neg oM]
     rw [show off + k + (j - off - k) = j by omega]
     simpa using hc j hj
 ·intro j v hv
  rw [List.getElem?_map] at hv
  have hj:j < k:=by
   rcases Nat.lt_or_ge j k with h1 | h1
   ·exact h1
   ·rw [List.getElem?_eq_none (by simpa using h1)] at hv; cases hv
  rw [List.getElem?_range hj] at hv
  cases hv
  rw [Addr.add_lit]
  exact hcell j oM
 ·intro v hv
  obtain ⟨j,_,rfl⟩:=List.mem_map.1 hv
  rfl
theorem step_pre {n:Nat} {g fy:Nat -> Nat} (hg:Wd g (n + 3)) (hy:Wd fy (n + 2)) (htop:2147483648 <= fy (n + 1)) (hlt:vs g (n + 3) < vs fy (n + 2) * 4294967296) :
  g (n + 2) <= fy (n + 1) /\ vs g (n + 3) / vs fy (n + 2) * (fy (n + 1) * 4294967296 + fy n) <= (g (n + 2) * 4294967296 + g (n + 1)) * 4294967296 + g n /\ vs g (n + 3) / vs fy (n + 2) < 4294967296 /\
  ∀ t,t < 4294967296 -> t * (fy (n + 1) * 4294967296 + fy n) <= (g (n + 2) * 4294967296 + g (n + 1)) * 4294967296 + g n -> vs g (n + 3) / vs fy (n + 2) <= t -> t = vs g (n + 3) / vs fy (n + 2) ∨ t = vs g (n + 3) / vs fy (n + 2) + 1:=by
 have hWe:=vs_top3 g n
 have hVe:=vs_top2 fy n
 have hv':=vs_lt (hy.mono (m:=n) oM)
 have hw':=vs_lt (f:=g) (n:=n) (hg.mono oM)
 have hle:g (n + 2) <= fy (n + 1):=top_le (n:=n) (vs_succ g (n + 2) |>.trans (Nat.add_comm _ _)) ((vs_succ fy (n + 1)).trans (Nat.add_comm _ _)) (vs_lt (hy.mono oM)) hlt
 have hVpos:0 < vs fy (n + 2):=by
  have:=vs_top (f:=fy) (n:=n + 2) oM sO
  have:=Nat.pow_pos (a:=4294967296) (n:=n + 2 - 1) oM
  omega
 generalize vs g (n + 3) = W at *
 generalize vs fy (n + 2) = V at *
 have hQ1:W / V * V <= W:=Nat.div_mul_le_self W V
 have hQ2:W < (W / V + 1) * V:=by rw [Nat.add_mul,Nat.one_mul]; have:=Nat.div_add_mod' W V; have:=Nat.mod_lt W hVpos; omega
 have hQB:W / V < 4294967296:=Nat.div_lt_of_lt_mul hlt
 exact ⟨hle,guess_pre hWe hVe hw' hQ1,hQB,fun t ht1 ht2 ht3=>guess_close hWe hVe hv' oM ht2 ht1 hQ2 ht3⟩
theorem guess_start {x2 x1 x0 y1 y0 Q:Nat} (h2:x2 < 4294967296) (h1:x1 < 4294967296) (h0:x0 < 4294967296) (hy1:y1 < 4294967296) (hy0:y0 < 4294967296) (htop:2147483648 <= y1) (hle:x2 <= y1)
  (hQ:Q * (y1 * 4294967296 + y0) <= (x2 * 4294967296 + x1) * 4294967296 + x0):∃ T w0 r0:Nat,bits .or .u64 ((x2:Int) * 4294967296) (x1:Int) = (T:Int) /\ T < 18446744073709551616 /\ T <= y1 * 4294967296 + 4294967295 /\ w0 <= 4294967297 /\ y1 * w0 + r0 = T /\ r0 < y1 /\ Q <= w0 /\
   IntKind.u64.wrap ((T:Int) / (y1:Int)) = (w0:Int) /\ (T:Int) % (y1:Int) = (r0:Int) /\ (x2 * 4294967296 + x1) * 4294967296 + x0 = T * 4294967296 + x0:=by
 have hor:bits .or .u64 ((x2:Int) * 4294967296) (x1:Int) = ((x1 + x2 * 4294967296:Nat):Int):=or64 x2 x1 h2 h1
 obtain ⟨T,hT⟩:∃ T,x1 + x2 * 4294967296 = T:=⟨_,rfl⟩
 rw [hT] at hor
 have hdm:=Nat.div_add_mod T y1
 have hX:(x2 * 4294967296 + x1) * 4294967296 + x0 = T * 4294967296 + x0:=oM
 have hw0:T / y1 < 4294967298:=Nat.div_lt_of_lt_mul oM
 refine ⟨T,T / y1,T % y1,hor,oM,oM,oM,hdm,Nat.mod_lt _ oM,?_,?_,by rw [<- Int.natCast_emod],hX⟩
 ·rw [hX] at hQ
  refine (Nat.le_div_iff_mul_le oM).2 ?_
  have h3:Q * (y1 * 4294967296 + y0) = Q * y1 * 4294967296 + Q * y0:=by rw [Nat.mul_add,Nat.mul_assoc]
  rw [h3] at hQ
  have h4:Q * y1 * 4294967296 < (T + 1) * 4294967296:=oM
  have:=Nat.lt_of_mul_lt_mul_right h4
  omega
 ·rw [<- Int.natCast_ediv,IntKind.wrap_u64]; revert hw0; generalize T / y1 = t; intro hw0; omega
def GRel (y1 T Q:Nat) (w:World) (gv rv:Value) (wx:World):Prop:=∃ t rest q:Nat,gv = .int .u64 t /\ rv = .int .u64 rest /\ y1 * t + rest = T /\ Q <= t /\ t <= 4294967297 /\ rest < 4294967296 /\ wx = w.drewN q
def SRel (w5:World) (g nx n k2 t:Nat) (fr fy:Nat -> Nat) (bv cv iv:Value) (wx:World):Prop :=
 ∃ (i cc bb:Nat) (f':Nat -> Nat),i <= n + 2 /\ iv = .int .i64 i /\ cv = .int .u64 cc /\ bv = .int .u64 bb /\ cc < 4294967296 /\ bb <= 1 /\ Row wx g (nx + 1) f' /\ Wd f' (nx + 1) /\ (∀ j,j < k2 ∨ k2 + i <= j -> f' j = fr j) /\
  vs (fun j=>f' (k2 + j)) i + vs fy i * t = vs (fun j=>fr (k2 + j)) i + (cc + bb) * 4294967296 ^ i /\ w5.grownBy wx (some g)
def ARel (w5:World) (g nx n k2:Nat) (f1 fy:Nat -> Nat) (cv iv:Value) (wx:World):Prop :=
 ∃ (i cc:Nat) (f':Nat -> Nat),i <= n + 2 /\ iv = .int .i64 i /\ cv = .int .u64 cc /\ cc <= 1 /\ Row wx g (nx + 1) f' /\ Wd f' (nx + 1) /\ (∀ j,j < k2 ∨ k2 + i <= j -> f' j = f1 j) /\
  vs (fun j=>f' (k2 + j)) i + cc * 4294967296 ^ i = vs (fun j=>f1 (k2 + j)) i + vs fy i /\ w5.grownBy wx (some g)
theorem cut_top {f:Nat -> Nat} {n m Y:Nat} (h:n <= m) (h1:vs f m < Y) (h2:Y < 4294967296 ^ n):vs f n = vs f m:=by
 have h3:=vs_add f n (m - n)
 rw [show n + (m - n) = m by omega] at h3
 rcases Nat.eq_zero_or_pos (vs (fun j=>f (n + j)) (m - n)) with h4 | h4
 ·rw [h4,Nat.mul_zero,Nat.add_zero] at h3
  exact h3.symm
 ·exfalso
  have h5:=Nat.le_mul_of_pos_right (4294967296 ^ n) h4
  rw [h3] at h1
  generalize 4294967296 ^ n * vs (fun j=>f (n + j)) (m - n) = C at *
  generalize 4294967296 ^ n = B at *
  omega
theorem rNatDiv_long (v u:Value) (x y:Nat) (w:World) (hv:IsNat w v x) (hu:IsNat w u y) (hy2:2 <= wl y) (hle:y <= x) (hn:wl x < 549755813888) :
  Calls Tryz.prog 143 #[v,u] w (RetTwo w (x / y) (x % y)):=by
 have hnxy:=wl_mono hle
 have HU:=hid hu
 have hcm:cmpN x y < 0 -> False:=by unfold cmpN; rw [if_neg oM]; split <;> simp
 have hc0:decide (cmpN x y < 0) = false:=by simpa using fun h=>hcm h
 have HC:=hid (rNatCmp_any v u x y w hv hu oM oM)
 have HB:=hid (fun W (h:Below w.heap.size w W)=>rNatBits_any u y (wl y - 1) W (hu.below h) oM oM)
 obtain ⟨hs1,hs2,hs3⟩:=norm_shift (y:=y) oM
 have hbl1:bl (dg y (wl y - 1)) <= 32:=bl_le (dg_lt _ _)
 generalize cmpN x y = cm at *
 obtain ⟨A,c,rfl,hc,hw⟩:=hv
 have HV:=hid (fun W (h:Below w.heap.size w W)=>(show IsNat W (.slice A (wl x) c) x from ⟨A,c,rfl,hc,hw.below h⟩))
 obtain ⟨A',c',rfl,hc',hw'⟩:=hu
 obtain ⟨n,hny⟩:∃ n,wl y = n + 2:=⟨wl y - 2,oM⟩
 rw [hny] at hs1 hs2 hs3 HB hbl1
 simp only [show n + 2 - 1 = n + 1 by omega] at hs1 hs2 hs3 HB hbl1
 obtain ⟨s,hsg⟩:∃ s,32 - bl (dg y (n + 1)) = s:=⟨_,rfl⟩
 rw [hsg] at hs1 hs2 hs3
 have hs0:32 * (n + 1) + bl (dg y (n + 1)) = 32 * (n + 2) - s:=oM
 rw [hs0] at HB
 have HS1:=hid hs1
 have HS2:=hid hs2
 have HNY:=hid hny
 obtain ⟨nx,hnx⟩:∃ nx,wl x = nx:=⟨_,rfl⟩
 have HNX:=hid hnx
 rw [hnx] at hn hnxy hc HV HC ⊢
 rw [hny] at hnxy hc' HU HC ⊢
 clear hcm hw hw' hsg hs0 hs1 hs2 hbl1 hny hnx hle
 have hsub:IntKind.i64.wrap (32 * ((n:Int) + 2) - ((32 * (n + 2) - s:Nat):Int)) = (s:Int):=by rw [IntKind.wrap_i64]; omega
 have hl1:(((n + 2:Nat):Int) == 1) = false:=sO
 go_enter Tryz.func143,Tryz.ntmps143
 go_wp2_with fail
 refine HC.out.mono ?_
 rintro e w1 ⟨rfl,q,rfl⟩
 go_wp2_with fail
 refine (HB.out _ (below_drewN _ _)).mono ?_
 rintro e w1 ⟨rfl,rfl⟩
 go_wp2_with fail
 refine (rNatShl_any _ y s _ (HU.out.drewN q) (by rw [HNY.out]; omega) oM).mono ?_
 rintro e w1 ⟨vy,rfl,hvy,hb1⟩
 obtain ⟨Ay,cy,rfl,hcy2,hwy⟩:=hvy
 have hnY:=HS1.out
 rw [hnY] at hcy2 hwy ⊢
 have hYt:=HS2.out
 have HB1:=hid (bT (below_drewN w q) hb1)
 have HWY:=hid hwy
 have hXY:x * 2 ^ s < y * 2 ^ s * 4294967296 ^ (nx - (n + 2) + 1):=by
  have h1:x < 4294967296 ^ nx:=by rw [<- HNX.out]; exact lt_wl x
  have h2:2147483648 * 4294967296 ^ (n + 1) <= y * 2 ^ s:=by
   have h3:=vs_dg_wl (y * 2 ^ s)
   rw [HS1.out,vs_succ] at h3
   have h4:2147483648 * 4294967296 ^ (n + 1) <= dg (y * 2 ^ s) (n + 1) * 4294967296 ^ (n + 1):=Nat.mul_le_mul_right _ HS2.out
   omega
  have h5:(2:Nat) ^ s <= 2 ^ 31:=Nat.pow_le_pow_right oM oM
  have h6:x * 2 ^ s < 4294967296 ^ nx * 2147483648:=lL (Nat.mul_lt_mul_of_pos_right h1 (Nat.pow_pos oM)) (Nat.mul_le_mul_left _ h5)
  have h7:2147483648 * 4294967296 ^ (n + 1) * 4294967296 ^ (nx - (n + 2) + 1) <= y * 2 ^ s * 4294967296 ^ (nx - (n + 2) + 1):=Nat.mul_le_mul_right _ h2
  rw [Nat.mul_assoc,<- Nat.pow_add,show n + 1 + (nx - (n + 2) + 1) = nx by omega] at h7
  omega
 have hvY:vs (dg (y * 2 ^ s)) (n + 2) = y * 2 ^ s:=by
  have h3:=vs_dg_wl (y * 2 ^ s)
  rw [HS1.out] at h3
  exact h3
 have hYB:y * 2 ^ s < 4294967296 ^ (n + 2):=by
  have h3:=lt_wl (y * 2 ^ s)
  rw [HS1.out] at h3
  exact h3
 have hY0:0 < y * 2 ^ s:=by
  rcases Nat.eq_zero_or_pos (y * 2 ^ s) with h | h
  ·have h3:=HS1.out
   rw [h,wl_zero] at h3
   omega
  ·exact h
 have HVY:=hid hvY
 have HYB:=hid hYB
 have HY0:=hid hY0
 clear hvY hYB hY0
 have hpos:0 < 2 ^ s:=Nat.pow_pos oM
 have hxs:x * 2 ^ s < 4294967296 ^ (nx + 1):=by
  have h1:x < 4294967296 ^ nx:=by rw [<- HNX.out]; exact lt_wl x
  have h5:(2:Nat) ^ s <= 2 ^ 31:=Nat.pow_le_pow_right oM oM
  have h6:x * 2 ^ s < 4294967296 ^ nx * 4294967296:=lL (Nat.mul_lt_mul_of_pos_right h1 hpos) (Nat.mul_le_mul_left _ oM)
  rw [Nat.pow_succ]; exact h6
 have hxl:=wl_le_of hxs
 have HXY:=hid hXY
 have hmk1:∀ W:World,(Instr.makeSlice 30 (.int .i64 ((nx:Int) + 1)) (.int .i64 ((nx:Int) + 1))).run Tryz.prog W = .ok (.slice (some ⟨W.heap.size,0,none⟩) (nx + 1) (nx + 1)) (W.alloc (zrow (nx + 1))):=fun W=>make_words (nx + 1) oM W
 obtain ⟨d,hd⟩:∃ d,nx - (n + 2) = d:=⟨_,rfl⟩
 have hd1:n + 2 + d <= nx:=oM
 have hd2:nx <= n + 2 + d:=oM
 have hmk2:∀ W:World,(Instr.makeSlice 30 (.int .i64 ((d:Int) + 1)) (.int .i64 ((d:Int) + 1))).run Tryz.prog W = .ok (.slice (some ⟨W.heap.size,0,none⟩) (d + 1) (d + 1)) (W.alloc (zrow (d + 1))):=fun W=>make_words (d + 1) oM W
 have hdi:IntKind.i64.wrap ((nx:Int) + 1 - ((n:Int) + 2)) = (d:Int) + 1:=by rw [IntKind.wrap_i64]; omega
 rw [hd] at HXY
 generalize hYg:y * 2 ^ s = Y at *
 have HYG:=hid hYg
 clear hb1 hwy hXY hYg hnY hd hxs
 go_wp2_with fail
 refine (rNatShl_any _ x s _ (HV.out _ (bT HB1.out (below_alloc _ (zrow (nx + 1))))) (by rw [HNX.out]; omega) oM).mono ?_
 rintro e w3 ⟨vX,rfl,hvX,hb3⟩
 obtain ⟨AX,cX,rfl,hcX,hwX⟩:=hvX
 have hrow3:=(Row.zrow w1 (nx + 1)).below hb3 sP
 obtain ⟨w4,hcp,hr4,hg4⟩:=copy_words w3 w1.heap.size 0 (nx + 1) (nx + 1) (wl (x * 2 ^ s)) cX (nx + 1) (wl (x * 2 ^ s)) AX (fun _=>0) (dg (x * 2 ^ s)) hrow3 hwX oM oM
 have hb4:Below w1.heap.size w1 w4:=((below_alloc w1 (zrow (nx + 1))).trans (hb3.mono sP)).grown hg4 (by have:=hb3.size; simp at this; omega) (fun k hk=>by cases hk; exact Nat.le_refl _)
 have hT4:vs (cpy (fun _=>0) 0 (dg (x * 2 ^ s)) (wl (x * 2 ^ s))) (nx + 1) = x * 2 ^ s:=by rw [vs_cpy_zero oM,vs_dg_wl]
 have hW4:=cpy_zero (f':=dg (x * 2 ^ s)) (k:=wl (x * 2 ^ s)) (Wd_dg _ _) (nx + 1)
 have HB4:=hid hb4
 have HR4:=hid hr4
 have HT4:=hid hT4
 have HW4:=hid hW4
 clear hb4 hr4 hT4 hW4 hg4 hrow3 hb3 hwX hcX
 generalize cpy (fun _=>0) 0 (dg (x * 2 ^ s)) (wl (x * 2 ^ s)) = f4 at *
 go_wp2_with fail
 have hs14:w1.heap.size < w4.heap.size:=HR4.out.lt
 go_loopw [13] (fun i wr=>∃ k:Nat,k <= d + 1 /\ i = .int .i64 ((k:Int) - 1) /\ LongRel w1 w4.heap.size nx d (x * 2 ^ s) Y k wr) (fun i _=>(intOf i + 1).toNat)
 case atStart=>exact ⟨d + 1,oM,by go_num,f4,_,HR4.out.below (below_alloc _ _) hs14,HW4.out,Row.zrow w4 (d + 1),fun j h1 h2=>oM,by rw [Nat.sub_self,vs_zero,HT4.out]; simp,by rw [HT4.out]; exact HXY.out,HB4.out.trans ((below_alloc w4 _).mono oM)⟩
 case round =>
  obtain ⟨k,hk,rfl,fr,fq,hrow1,hfr,hrow2,hfq,hX,hR,hb⟩:=hrel
  have HRo1:=hid hrow1
  have HRo2:=hid hrow2
  have HFQ:=hid hfq
  have HXX:=hid hX
  have HRR:=hid hR
  have HB9:=hid hb
  clear hrow1 hrow2 hfq hX hR hb
  rcases Nat.eq_zero_or_pos k with h0 | h0
  ·subst h0
   have hfin:=long_end (x:=x) (y:=y) (p:=2 ^ s) (Q:=vs fq (d + 1)) (R:=vs fr (nx + 1)) hpos (by
    have:=HXX.out
    simp only [Nat.zero_add,Nat.sub_zero,Nat.pow_zero,Nat.mul_one] at this
    rw [HYG.out]; exact this) (by have:=HRR.out; rw [Nat.pow_zero,Nat.mul_one] at this; rw [HYG.out]; exact this)
   have hcut:vs fr (n + 2) = vs fr (nx + 1):=cut_top (Y:=Y) oM (by have h1:=HRR.out; rw [Nat.pow_zero,Nat.mul_one] at h1; exact h1) HYB.out
   rw [<- hcut] at hfin
   have HF:=hid hfin
   clear hfin hcut
   have hdB:d + 1 <= 1099511627776:=oM
   have hwr:wl (vs fr (n + 2)) <= n + 2:=wl_le_of (vs_lt (hfr.mono oM))
   have HQ:=hid (fun W (hb:Below wr.heap.size wr W)=>rtrim_nat (some ⟨w4.heap.size,0,none⟩) (d + 1) (d + 1) fq W (HRo2.out.below hb HRo2.out.lt).wn0 (fun j hj=>HFQ.out j (Nat.zero_le _) hj) lR hdB)
   have HR:=hid (fun W (hb:Below wr.heap.size wr W)=>rtrim_nat (some ⟨w1.heap.size,0,none⟩) (n + 2) (nx + 1) fr W ((HRo1.out.below hb HRo1.out.lt).wn0.mono oM) (hfr.mono oM) oM oM)
   have HS:=hid (fun v W (h:IsNat W v (vs fr (n + 2)))=>rNatShr_any v _ s W h oM oM)
   have hsl:(n:Int) + 2 <= (nx:Int) + 1:=oM
   have hsl0:(0:Int) <= (n:Int) + 2:=oM
   have hsl1:((n:Int) + 2).toNat = n + 2:=oM
   have hsl2:¬ ((nx:Int) + 1 < (n:Int) + 2):=oM
   have hsl3:¬ ((n:Int) + 2 < 0):=oM
   clear hwr
   go_wp2_with fail
   go_region_held3 (fun _=>True) (trivial) (first | (go_at_call 148; (first | ((with_reducible refine (HQ.out _ ?_).mono ?_); (exact bel); (rintro e wq ⟨vq,rfl,hvq,rfl⟩)) | ((with_reducible refine (HR.out _ ?_).mono ?_); (exact bel); (rintro e wu ⟨vr,rfl,hvr,rfl⟩)))) | (go_at_call 168; (with_reducible refine (HS.out _ _ hvr).mono ?_); rintro e w7 ⟨vm,rfl,hvm,hb7⟩))
   have HVQ:=hid hvq
   have HVM:=hid hvm
   have HB7:=hid hb7
   clear hvm hb7
   have hb3:Below w.heap.size w wr:=HB1.out.trans (HB9.out.mono HB1.out.size)
   have HB3:=hid hb3
   clear hb3
   go_wp2
   go_ret2
   exact ⟨vq,vm,rfl,by rw [<- HF.out.1]; exact HVQ.out.below HB7.out,by rw [<- HF.out.2]; exact HVM.out,HB3.out.trans ((Below.drew rfB).trans (HB7.out.mono sP) |>.mono HB3.out.size)⟩
  ·obtain ⟨k2,rfl⟩:∃ k2,k = k2 + 1:=⟨k - 1,oM⟩
   obtain ⟨hwe,hwlt,hwz⟩:=long_win (n:=n) oM HYB.out HRR.out
   have HWLT:=hid hwlt
   have hlt':vs (fun j=>fr (k2 + j)) (n + 3) < vs (dg Y) (n + 2) * 4294967296:=by rw [HVY.out]; exact hwlt
   obtain ⟨hle,hpre,hQB,hclose⟩:=step_pre (fun j hj=>hfr (k2 + j) oM) (Wd_dg Y (n + 2)) hYt hlt'
   rw [HVY.out] at hpre hQB hclose
   have hx2:=hfr (k2 + (n + 2)) oM
   have hx1:=hfr (k2 + (n + 1)) oM
   have hx0:=hfr (k2 + n) oM
   obtain ⟨T,t0,r0,hor,hT1,hT2,ht0,hdm,hr0,hQt,hq1,hr1,hTx⟩:=guess_start hx2 hx1 hx0 (dg_lt Y (n + 1)) (dg_lt Y n) hYt hle hpre
   rw [hTx] at hpre hclose
   have HCL:=hid hclose
   have HPRE:=hid hpre
   have HDM:=hid hdm
   obtain ⟨Q,hQ⟩:∃ Q,vs (fun j=>fr (k2 + j)) (n + 3) / Y = Q:=⟨_,rfl⟩
   rw [hQ] at HCL HPRE hQt hQB
   have HQ:=hid hQ
   obtain ⟨b,o2,rfl,hbb,hcy3⟩:=(HWY.out.below HB9.out) oM
   have hc1:=hcy3 (n + 1) oM
   have hc0:=hcy3 n oM
   have hz2:=HRo1.out.cell (j:=k2 + (n + 2)) oM
   have hz1:=HRo1.out.cell (j:=k2 + (n + 1)) oM
   have hz0:=HRo1.out.cell (j:=k2 + n) oM
   have hy1:=dg_lt Y (n + 1)
   have hy0:=dg_lt Y n
   clear hwe hwlt hwz hlt' hclose hpre hdm hQ hcy3 hTx
   generalize fr (k2 + (n + 2)) = x2 at *
   generalize fr (k2 + (n + 1)) = x1 at *
   generalize fr (k2 + n) = x0 at *
   generalize dg Y (n + 1) = y1 at *
   generalize dg Y n = y0 at *
   have hy1n:((y1:Int) == 0) = false:=sO
   have b5:IntKind.i64.wrap (n:Int) = (n:Int):=by rw [IntKind.wrap_i64]; omega
   have a8:(n:Int) < (n:Int) + 2:=oM
   have a6:(0:Int) <= (n:Int):=oM
   have b6:(n:Int).toNat = n:=oM
   have b7:IntKind.i64.wrap ((k2:Int) + (n:Int)) = (k2:Int) + (n:Int):=by rw [IntKind.wrap_i64]; omega
   have b8:IntKind.i64.wrap ((k2:Int) + ((n:Int) + 2) - 2) = (k2:Int) + (n:Int):=by rw [IntKind.wrap_i64]; omega
   have b9:((k2:Int) + (n:Int)).toNat = k2 + n:=oM
   have a9:(k2:Int) + (n:Int) < (nx:Int) + 1:=oM
   have a10:(0:Int) <= (k2:Int) + (n:Int):=oM
   go_wp2
   go_quiet (fail)
   go_upto_block 2 with fail
   go_cut [15] from 110 to 145 (fun s15 wx=>∃ t q:Nat,s15 = .int .u64 t /\ Q <= t /\ t < 4294967296 /\ t * (y1 * 4294967296 + y0) <= T * 4294967296 + x0 /\ wx = wr.drewN q)
   case first =>
    go_wp2_with fail
    go_loopw [15,16] (fun gv rv wx=>GRel y1 T Q wr gv rv wx) (fun gv _ _=>(intOf gv).toNat)
    case atStart=>exact ⟨t0,r0,_,rfl,by rw [hr1],HDM.out,hQt,ht0,oM,rfl⟩
    case round =>
     obtain ⟨t,rest,q5,rfl,rfl,he,hQ1,ht,hrl,rfl⟩:=hrel
     have HE:=hid he; clear he
     by_cases c2:4294967296 <= t
     ·have hc2:decide ((4294967296:Int) <= (t:Int)) = true:=sO
      have HN:=hid (guess_next (t:=t - 1) (show y1 * (t - 1 + 1) + rest = T by rw [Nat.sub_add_cancel oM]; exact HE.out))
      have hw1:IntKind.u64.wrap ((t:Int) - 1) = ((t - 1:Nat):Int):=by rw [IntKind.wrap_u64]; omega
      by_cases c3:4294967296 <= rest + y1
      ·have hc3:decide ((4294967296:Int) <= ((rest:Int) + (y1:Int))) = true:=sO
       have HX1:=hid (guess_exit1 (x0:=x0) HN.out c3 hT2 hy0)
       go_wp2
       go_quiet (fail)
       go_wp2
       go_meet
       exact ⟨t - 1,_,by go_num,oM,HX1.out.1,HX1.out.2,by first | rfl | rw [World.drewN_drewN]⟩
      ·have hc3:decide ((4294967296:Int) <= ((rest:Int) + (y1:Int))) = false:=sO
       go_wp2
       go_quiet (fail)
       go_wp2
       go_roundw
       case rel=>exact ⟨t - 1,rest + y1,_,by go_num,by go_num,HN.out,oM,oM,oM,by first | rfl | rw [World.drewN_drewN]⟩
       case measure=>exact mS
     ·have hc2:decide ((4294967296:Int) <= (t:Int)) = false:=sO
      obtain ⟨p,hp,hpe,hpl⟩:=mul_nat t y0 oM hy0
      have hor2:=or64 rest x0 oM hx0
      by_cases c4:rest * 4294967296 + x0 < t * y0
      ·have hdc:=guess_dec HE.out c4 HPRE.out
       have HN:=hid (guess_next (t:=t - 1) (show y1 * (t - 1 + 1) + rest = T by rw [Nat.sub_add_cancel oM]; exact HE.out))
       have hw1:IntKind.u64.wrap ((t:Int) - 1) = ((t - 1:Nat):Int):=by rw [IntKind.wrap_u64]; omega
       rw [<- hpe] at c4
       have hc4:decide (((x0 + rest * 4294967296:Nat):Int) < (p:Int)) = true:=sO
       clear hpe
       by_cases c3:4294967296 <= rest + y1
       ·have hc3:decide ((4294967296:Int) <= ((rest:Int) + (y1:Int))) = true:=sO
        have HX1:=hid (guess_exit1 (x0:=x0) HN.out c3 hT2 hy0)
        go_wp2
        go_quiet (fail)
        go_wp2
        go_meet
        exact ⟨t - 1,_,by go_num,oM,HX1.out.1,HX1.out.2,by first | rfl | rw [World.drewN_drewN]⟩
       ·have hc3:decide ((4294967296:Int) <= ((rest:Int) + (y1:Int))) = false:=sO
        go_wp2
        go_quiet (fail)
        go_wp2
        go_roundw
        case rel=>exact ⟨t - 1,rest + y1,_,by go_num,by go_num,HN.out,oM,oM,oM,by first | rfl | rw [World.drewN_drewN]⟩
        case measure=>exact mS
      ·have HX2:=hid (guess_exit2 (x0:=x0) HE.out (show t * y0 <= rest * 4294967296 + x0 by omega))
       rw [<- hpe] at c4
       have hc4:decide (((x0 + rest * 4294967296:Nat):Int) < (p:Int)) = false:=sO
       have htl:t < 4294967296:=oM
       clear hpe
       go_wp2
       go_quiet (fail)
       go_wp2
       go_meet
       exact ⟨t,_,rfl,hQ1,htl,HX2.out,by first | rfl | rw [World.drewN_drewN]⟩
   case rest =>
    obtain ⟨t,q2,rfl,hQt2,htB,htY,hwc⟩:=hcut
    have hcl:=HCL.out t htB htY hQt2
    have HCC:=hid hcl
    have HRw:=hid (show Row wc w1.heap.size (nx + 1) fr by rw [hwc]; exact HRo1.out)
    have HQw:=hid (show Row wc w4.heap.size (d + 1) fq by rw [hwc]; exact HRo2.out)
    have HBw:=hid (show Below w1.heap.size w1 wc by rw [hwc]; exact HB9.out.trans ((below_drewN wr q2).mono HB9.out.size))
    have HYw:=hid (show Wn wc (some ⟨b,o2,none⟩) (n + 2) (dg Y) by rw [hwc]; exact HWY.out.below (HB9.out.trans ((below_drewN wr q2).mono HB9.out.size)))
    have hbg:b < w1.heap.size:=by obtain ⟨b0,o0,e0,h0,-⟩:=HWY.out oM; cases e0; exact h0
    have hYA:∀ a:Addr,some (⟨b,o2,none⟩:Addr) = some a -> some a.block ≠ some w1.heap.size:=fun a ha=>by cases ha; simp; omega
    have HYA:=hid hYA
    clear hcl hwc hYA hc1 hc0 hz0 hz1 hz2 hor hT1 hT2 ht0 hr0 hQt hq1 hr1 HPRE HCL HDM hy1 hy0 hx0 hx1 hx2 hle hYt HS2 hy1n b5 b6 b7 b8 b9 a6 a8 a9 a10 htY hQt2 HB HC hsub hl1 hxl hmk1 hmk2 hcp HT4 HW4 HR4 HXY HU HV hc hpos
    clear hc0
    go_wp2_with fail
    go_loopw [17,18,19] (fun bv cv iv wx=>SRel wc w1.heap.size nx n k2 t fr (dg Y) bv cv iv wx) (fun _ _ iv _=>n + 2 - (intOf iv).toNat)
    case atStart=>exact ⟨0,0,0,fr,oM,rfl,rfl,rfl,oM,oM,HRw.out,hfr,fun _ _=>rfl,by simp [vs_zero],grown_refl _ _⟩
    case round =>
     obtain ⟨i,cc,bb,f',hi,rfl,rfl,rfl,hcc,hbb1,hrow,hfw,hkeep,hv,hg⟩:=hrel
     have HV:=hid hv; clear hv
     have HK:=hid hkeep; clear hkeep
     have HG:=hid hg; clear hg
     have HRO:=hid hrow; clear hrow
     by_cases hlt:i < n + 2
     ·obtain ⟨b3,o3,e3,hb3,hcy4⟩:=(HYw.out.grown HG.out HYA.out) oM
      cases e3
      have hcell:=hcy4 i hlt
      clear hcy4
      have hw1:=dg_lt Y i
      have hw2:=hfw (k2 + i) oM
      have hz:=HRO.out.cell (j:=k2 + i) oM
      have hz':=HRO.out.cell (j:=i + k2) oM
      have hzf:=HRO.out.frozen (i + k2)
      obtain ⟨p,hp,hpe,hpl⟩:=mul_nat t (dg Y i) htB hw1
      have HP:=hid hpe
      clear hpe hz
      obtain ⟨X,e,b',hX1,hX2,hX3,hX4,hX5,hX6,hX7⟩:=sub64 (f' (i + k2)) ((p + cc) % 4294967296) bb (by rw [Nat.add_comm]; exact hw2) oM hbb1
      have HS:=hid hX4
      have hX1':IntKind.u64.wrap (IntKind.u64.wrap ((f' (i + k2):Int) - ((p:Int) + (cc:Int)) % 4294967296) - (bb:Int)) = (X:Int):=by rw [Int.natCast_emod,Int.natCast_add] at hX1; exact hX1
      clear hX1
      have hi2:i + k2 = k2 + i:=Nat.add_comm _ _
      have hand:bits .and .u64 ((p:Int) + (cc:Int)) 4294967295 = (((p + cc) % 4294967296:Nat):Int):=and32 (p + cc) oM
      have hu1:IntKind.u64.wrap ((f' (i + k2):Nat):Int) = ((f' (i + k2):Nat):Int):=by rw [hi2,IntKind.wrap_u64]; omega
      have HI2:=hid hi2
      clear hX4 hi2
      go_wp2
      have hi2:=HI2.out
      have hc2:((p:Int) + (cc:Int)) / 4294967296 = (((p + cc) / 4294967296:Nat):Int):=oM
      go_roundw
      case rel=>exact ⟨i + 1,(p + cc) / 4294967296,b',upd f' (k2 + i) e,oM,by go_num,by go_num,rfl,oM,hX6,by rw [<- hi2]; exact HRO.out.set_ oM e,hfw.upd _ hX5,fun j hj=>by rw [upd_other _ _ oM]; exact HK.out j oM,decr_row HV.out (show p + cc = cc + p from Nat.add_comm _ _) (by rw [HP.out,Nat.mul_comm]) (by rw [<- hi2]; exact HS.out) (HK.out _ oM),grown_trans HG.out (grown_set _ _ _ _)⟩
      case measure=>exact mS
     ·obtain rfl:i = n + 2:=oM
      have hu:=hfw (k2 + (n + 2)) oM
      have hz:=HRO.out.cell (j:=k2 + (n + 2)) oM
      have hzf:=HRO.out.frozen (k2 + (n + 2))
      obtain ⟨X,e,b',hX1,hX2,hX3,hX4,hX5,hX6,hX7⟩:=sub64 (f' (k2 + (n + 2))) cc bb hu hcc hbb1
      have hend:=decr_end HV.out hX4 (HK.out _ oM)
      have hr1:=HRO.out.set_ (i:=k2 + (n + 2)) oM e
      have hf1:=hfw.upd (k2 + (n + 2)) hX5
      have hkp:∀ j,j < k2 ∨ k2 + (n + 2) + 1 <= j -> upd f' (k2 + (n + 2)) e j = fr j:=fun j hj=>by rw [upd_other _ _ oM]; exact HK.out j oM
      obtain ⟨f1,hf1e⟩:∃ f1,f1 = upd f' (k2 + (n + 2)) e:=⟨_,rfl⟩
      rw [<- hf1e] at hend hr1 hf1 hkp
      have hf1lt:=vs_lt (f:=fun j=>f1 (k2 + j)) (n:=n + 3) (fun j hj=>hf1 (k2 + j) oM)
      rw [HVY.out] at hend
      have hYp:=HY0.out
      have hdm2:=Nat.div_add_mod' (vs (fun j=>fr (k2 + j)) (n + 3)) Y
      have hml:=Nat.mod_lt (vs (fun j=>fr (k2 + j)) (n + 3)) hYp
      rw [HQ.out] at hdm2
      have hcs:=dec_cases (W:=vs (fun j=>fr (k2 + j)) (n + 3)) hend hf1lt hdm2 hml HCC.out hX6
      have hg1:=grown_trans HG.out (grown_set _ w1.heap.size (k2 + (n + 2)) (.int .u32 (e:Int)))
      have HCS:=hid hcs
      have HR1:=hid hr1
      have HKP:=hid hkp
      have HG1:=hid hg1
      have hu1:IntKind.u64.wrap ((f' (k2 + (n + 2)):Nat):Int) = ((f' (k2 + (n + 2)):Nat):Int):=by rw [IntKind.wrap_u64]; omega
      clear hcs hr1 hkp hg1 hend hf1lt hdm2 hml hf1e hX4
      have hne:w4.heap.size ≠ w1.heap.size:=oM
      have HNE:=hid hne
      have hcell6:∀ v:Value,Row (wr.setCell ⟨w1.heap.size,k2 + (n + 2),none⟩ v) w4.heap.size (d + 1) fq:=fun v=>HQw.out.grown (grown_trans HG.out (grown_set _ _ _ v)) (by simpa using hne)
      have HQ6:=hid hcell6
      have hX':=HXX.out
      rw [show d + 1 - (k2 + 1) = d - k2 by omega] at hX'
      have hlr:=fun (f':Nat -> Nat) (h1:∀ j,j < k2 ∨ k2 + (n + 2) + 1 <= j -> f' j = fr j) (h2:vs (fun j=>f' (k2 + j)) (n + 3) = vs (fun j=>fr (k2 + j)) (n + 3) % Y)=>long_round (n:=n) (nx:=nx) (fq:=fq) (m:=d - k2) oM hfr HYB.out HY0.out hX' HRR.out h1 h2
      rw [HQ.out] at hlr
      have HLRR:=hid hlr
      have hQ32:IntKind.u32.wrap (Q:Int) = (Q:Int):=by rw [IntKind.wrap_u32]; omega
      have hQ33:(Q:Int) % 4294967296 = (Q:Int):=oM
      have hzq:=(hcell6 (.int .u32 (e:Int))).cell (j:=k2) oM
      have hzqf:=(hcell6 (.int .u32 (e:Int))).frozen k2
      clear hne hcell6 hX' hlr
      rcases HCS.out with ⟨rfl,rfl,hfin⟩ | ⟨rfl,rfl,hfin⟩
      ·have HLR:=hid (HLRR.out f1 HKP.out hfin)
       have HBF:=hid (HBw.out.grown HG1.out HBw.out.size (fun k hk=>by cases hk; exact Nat.le_refl _))
       have HRF:=hid HR1.out
       have HQF:=hid (HQ6.out (.int .u32 (e:Int)))
       clear hfin
       go_wp2
       go_roundw
       case rel=>exact ⟨k2,oM,by go_num,f1,upd fq k2 t,HRF.out.keep (Below.heap_setCell _ _ _ _ (fun h=>HNE.out h.symm)),hf1,HQF.out.set_ oM t,fun j h1 h2=>by
        unfold upd
        split
        ·exact hQB
        ·exact HFQ.out j oM h2,by rw [show d + 1 - k2 = d - k2 + 1 by omega]; exact HLR.out.1,HLR.out.2,HBF.out.setCell (Nat.le_of_lt hs14) _⟩
       case measure=>simp [intOf]
      ·have HF:=hid hfin
       have hw15:IntKind.u64.wrap (((Q + 1:Nat):Int) - 1) = (Q:Int):=by rw [IntKind.wrap_u64]; omega
       clear hfin
       go_wp2_with fail
       obtain ⟨w6,hw6⟩:∃ w6,w6 = wr.setCell ⟨w1.heap.size,k2 + (n + 2),none⟩ (.int .u32 (e:Int)):=⟨_,rfl⟩
       rw [<- hw6]
       have HR6:=hid (show Row w6 w1.heap.size (nx + 1) f1 by rw [hw6]; exact HR1.out)
       have HG6:=hid (show wc.grownBy w6 (some w1.heap.size) by rw [hw6]; exact HG1.out)
       have HQ7:=hid (show Row w6 w4.heap.size (d + 1) fq by rw [hw6]; exact HQ6.out _)
       clear hw6 hzq hzqf hz hzf
       go_loopw [18,23] (fun cv iv wx=>ARel w6 w1.heap.size nx n k2 f1 (dg Y) cv iv wx) (fun _ iv _=>n + 2 - (intOf iv).toNat)
       case atStart=>exact ⟨0,0,f1,oM,rfl,rfl,oM,HR6.out,hf1,fun _ _=>rfl,by simp [vs_zero],grown_refl _ _⟩
       case round =>
        obtain ⟨i,cc,f',hi,rfl,rfl,hcc,hrow,hfw,hkeep,hv,hg⟩:=hrel
        have HV:=hid hv; clear hv
        have HK:=hid hkeep; clear hkeep
        have HG:=hid hg; clear hg
        have HRO:=hid hrow; clear hrow
        by_cases hlt:i < n + 2
        ·obtain ⟨b3,o3,e3,hb3,hcy4⟩:=((HYw.out.grown HG6.out HYA.out).grown HG.out HYA.out) oM
         cases e3
         have hcell:=hcy4 i hlt
         clear hcy4
         have hw1:=dg_lt Y i
         have hw2:=hfw (k2 + i) oM
         have hz:=HRO.out.cell (j:=i + k2) oM
         have hzf:=HRO.out.frozen (i + k2)
         have hi2:i + k2 = k2 + i:=Nat.add_comm _ _
         have hu1:IntKind.u64.wrap ((f' (i + k2):Nat):Int) = ((f' (i + k2):Nat):Int):=by rw [hi2,IntKind.wrap_u64]; omega
         have hu2:IntKind.u64.wrap ((dg Y i:Nat):Int) = ((dg Y i:Nat):Int):=by rw [IntKind.wrap_u64]; omega
         have hu3:IntKind.u64.wrap ((f' (i + k2):Int) + (dg Y i:Int)) = (f' (i + k2):Int) + (dg Y i:Int):=by rw [hi2,IntKind.wrap_u64]; omega
         have hu4:IntKind.u64.wrap ((f' (i + k2):Int) + (dg Y i:Int) + (cc:Int)) = (f' (i + k2):Int) + (dg Y i:Int) + (cc:Int):=by rw [hi2,IntKind.wrap_u64]; omega
         obtain ⟨sv,cv,hu5,hu6,hs3,hs4,hs5⟩:∃ sv cv:Nat,((f' (i + k2):Int) + (dg Y i:Int) + (cc:Int)) % 4294967296 = (sv:Int) /\ ((f' (i + k2):Int) + (dg Y i:Int) + (cc:Int)) / 4294967296 = (cv:Int) /\ sv + cv * 4294967296 = f' (i + k2) + dg Y i + cc /\ sv < 4294967296 /\ cv <= 1:=by
          rw [hi2]
          exact ⟨(f' (k2 + i) + dg Y i + cc) % 4294967296,(f' (k2 + i) + dg Y i + cc) / 4294967296,oM,oM,oM,oM,oM⟩
         have HS3:=hid hs3
         clear hs3
         have HI2:=hid hi2
         clear hi2
         go_wp2
         go_quiet (fail)
         have HR7:=hid (show Row (wr.drewN nq) w1.heap.size (nx + 1) f' from HRO.out)
         have hz7:=HR7.out.cell (j:=i + k2) oM
         have hzf7:=HR7.out.frozen (i + k2)
         go_wp2
         go_roundw
         case rel=>exact ⟨i + 1,cv,upd f' (k2 + i) sv,oM,by go_num,rfl,hs5,by rw [<- HI2.out]; exact HR7.out.set_ oM _,hfw.upd _ hs4,fun j hj=>by rw [upd_other _ _ oM]; exact HK.out j oM,inc_step HV.out (by rw [<- HI2.out]; exact HS3.out) (HK.out _ oM),grown_trans (grown_drewN HG.out nq) (grown_set _ _ _ _)⟩
         case measure=>exact mS
        ·obtain rfl:i = n + 2:=oM
         have hu:=hfw (k2 + (n + 2)) oM
         have hz:=HRO.out.cell (j:=k2 + (n + 2)) oM
         have hzf:=HRO.out.frozen (k2 + (n + 2))
         have hsl:(f' (k2 + (n + 2)) + cc) % 4294967296 < 4294967296:=Nat.mod_lt _ oM
         have hf2:=hfw.upd (k2 + (n + 2)) hsl
         have hr2:=HRO.out.set_ (i:=k2 + (n + 2)) oM ((f' (k2 + (n + 2)) + cc) % 4294967296)
         have hv2:=HV.out
         rw [HVY.out] at hv2
         have hbe:=back_end (n:=n + 2) hv2 rfl rfl (HK.out _ oM) HF.out (fun j hj=>hf2 (k2 + j) oM) oM
         have hk2:∀ j,j < k2 ∨ k2 + (n + 2) + 1 <= j -> upd f' (k2 + (n + 2)) ((f' (k2 + (n + 2)) + cc) % 4294967296) j = fr j:=fun j hj=>by rw [upd_other _ _ oM,HK.out j oM]; exact HKP.out j hj
         have hs6:IntKind.u32.wrap ((f' (k2 + (n + 2)):Int) + (cc:Int)) = (((f' (k2 + (n + 2)) + cc) % 4294967296:Nat):Int):=by rw [IntKind.wrap_u32]; omega
         have hs7:(cc:Int) % 4294967296 = (cc:Int):=oM
         have hs8:IntKind.u32.wrap (cc:Int) = (cc:Int):=by rw [IntKind.wrap_u32]; omega
         obtain ⟨sv,hsv⟩:∃ sv,sv = (f' (k2 + (n + 2)) + cc) % 4294967296:=⟨_,rfl⟩
         rw [<- hsv] at hs6 hr2 hbe hk2 hf2 hsl
         obtain ⟨f2,hf2e⟩:∃ f2,f2 = upd f' (k2 + (n + 2)) sv:=⟨_,rfl⟩
         rw [<- hf2e] at hr2 hbe hk2 hf2
         have HLR:=hid (HLRR.out f2 hk2 hbe)
         have hgg:=grown_trans HG6.out (grown_trans HG.out (grown_set wr w1.heap.size (k2 + (n + 2)) (.int .u32 (sv:Int))))
         have HRF:=hid hr2
         have hq7:=HQ7.out.grown (grown_trans HG.out (grown_set wr w1.heap.size (k2 + (n + 2)) (.int .u32 (sv:Int)))) (by have:=HNE.out; simpa using this)
         have hzq:=hq7.cell (j:=k2) oM
         have hzqf:=hq7.frozen k2
         have HQF:=hid hq7
         have HBF:=hid (HBw.out.grown hgg HBw.out.size (fun k hk=>by cases hk; exact Nat.le_refl _))
         clear hr2 hv2 hbe hk2 hf2e hgg hq7 hsv
         go_wp2
         go_roundw
         case rel=>exact ⟨k2,oM,by go_num,f2,upd fq k2 Q,HRF.out.keep (Below.heap_setCell _ _ _ _ (fun h=>HNE.out h.symm)),hf2,HQF.out.set_ oM Q,fun j h1 h2=>by
          unfold upd
          split
          ·exact hQB
          ·exact HFQ.out j oM h2,by rw [show d + 1 - k2 = d - k2 + 1 by omega]; exact HLR.out.1,HLR.out.2,HBF.out.setCell (Nat.le_of_lt hs14) _⟩
         case measure=>simp [intOf]
end Go.Proofs.YtffegeaflohfhaaGreatDoor
