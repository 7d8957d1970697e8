import Derived.Deep.RegionHeld3
import Derived.Test.YtjodlmanheeajaaGreatDoorR04
import Derived.Test.YtjodlmanheeajaaGreatDoorR02
set_option linter.unusedVariables false
set_option linter.unusedSimpArgs false
set_option maxRecDepth 100000
set_option maxHeartbeats 8000000
namespace Go.Proofs.YtjodlmanheeajaaGreatDoor
open Go.RowKit
def NotIn (g:Nat) (v:Value):Prop:=∀ a n c,v = .slice (some a) n c -> 0 < n -> a.block ≠ g
theorem New.notIn {w:World} {v:Value} {g:Nat} (h:New w v) (hg:g < w.heap.size):NotIn g v:=fun a n c e _=>by have:=h a n c e; omega
theorem IsNat.notNew {w:World} {v:Value} {x g:Nat} (h:IsNat w v x) (hg:w.heap.size <= g):NotIn g v:=fun a n c e h0=>by
 obtain ⟨A,c',rfl,_,hw⟩:=h
 cases e
 obtain ⟨b,o,hA,hlt,_⟩:=hw h0
 cases hA
 simp; omega
def RetMul (w:World) (v u:Value) (x:Nat) (e:Ending) (w':World):Prop :=
 ∃ r,e = .returned r /\ IsNat w' r x /\ Below w.heap.size w w' /\ ∀ g,g < w.heap.size -> NotIn g v -> NotIn g u -> NotIn g r
theorem RetNew.mul {w:World} {x:Nat} {e:Ending} {w':World} (h:RetNew w x e w') (v u:Value):RetMul w v u x e w':=by
 obtain ⟨r,h1,h2,h3,h4⟩:=h
 exact ⟨r,h1,h2,h3,fun g hg _ _=>h4.notIn hg⟩
theorem dg_high (x h j:Nat):dg (x / 4294967296 ^ h) j = dg x (h + j):=by unfold dg; rw [Nat.div_div_eq_div_mul,<- Nat.pow_add]
theorem wl_high {x h:Nat} (hh:h < wl x):wl (x / 4294967296 ^ h) = wl x - h:=by
 have hp:0 < 4294967296 ^ h:=Nat.pow_pos oM
 have h1:wl (x / 4294967296 ^ h) <= wl x - h:=wl_le_of (Nat.div_lt_of_lt_mul (by rw [<- Nat.pow_add,show h + (wl x - h) = wl x by omega]; exact lt_wl x))
 rcases Nat.lt_or_ge (wl (x / 4294967296 ^ h)) (wl x - h) with h2 | h2
 ·have h3:x / 4294967296 ^ h < 4294967296 ^ (wl x - h - 1):=wl_le_iff.1 oM
  have h4:x < 4294967296 ^ h * 4294967296 ^ (wl x - h - 1):=by rw [Nat.mul_comm]; exact (Nat.div_lt_iff_lt_mul hp).1 h3
  rw [<- Nat.pow_add,show h + (wl x - h - 1) = wl x - 1 by omega] at h4
  have:=pow_le_of_wl (x:=x) oM
  omega
 ·omega
theorem IsNat.high {w:World} {b off c x h:Nat} (hx:IsNat w (.slice (some ⟨b,off,none⟩) (wl x) c) x) (hh:h < wl x):IsNat w (.slice (some ⟨b,off + h,none⟩) (wl x - h) (c - h)) (x / 4294967296 ^ h):=by
 obtain ⟨A,c',e,hc,hw⟩:=hx
 cases e
 refine ⟨some ⟨b,off + h,none⟩,c - h,?_,?_,?_⟩
 ·rw [wl_high hh]
 ·rw [wl_high hh]; omega
 ·rw [wl_high hh]
  exact (hw.cut oM).congr fun j _=>(dg_high x h j).symm
theorem inc_room {f:Nat -> Nat} {m off T t:Nat} (hT:vs f m = T) (ho:off <= m) (h:T + 4294967296 ^ off * t < 4294967296 ^ m):vs (fun j=>f (off + j)) (m - off) + t < 4294967296 ^ (m - off):=by
 obtain ⟨r,rfl⟩:∃ r,m = off + r:=⟨m - off,oM⟩
 rw [vs_add] at hT
 rw [Nat.add_sub_cancel_left]
 rw [Nat.pow_add] at h
 refine Nat.lt_of_mul_lt_mul_left (a:=4294967296 ^ off) ?_
 rw [Nat.mul_add]
 omega
theorem increase_tot (g off m cz T t:Nat) (f:Nat -> Nat) (v:Value) (w:World) (hr:Row w g m f) (hf:Wd f m) (hT:vs f m = T) (ho:off <= m) (hm:m <= 1099511627776)
  (hv:IsNat w v t) (hg:NotIn g v) (h:T + 4294967296 ^ off * t < 4294967296 ^ m) :
  Calls Tryz.prog 242 #[.slice (some ⟨g,off,none⟩) (m - off) cz,v] w fun e w'=>e = .returned (.tuple #[]) /\ ∃ f',Row w' g m f' /\ Wd f' m /\ vs f' m = T + 4294967296 ^ off * t /\ w.grownBy w' (some g):=by
 obtain ⟨A,c,rfl,hc,hw⟩:=hv
 have hroom:=inc_room hT ho h
 have hwl:wl t <= m - off:=wl_le_of oM
 have hvs:=vs_dg_wl t
 refine (increase_any g off (m - off) cz m f A (wl t) c (dg t) w hr hf oM hw (Wd_dg _ _) (fun h0 a ha=>hg a (wl t) c (by rw [ha]) h0) hm (by rw [hvs]; exact hroom) hwl).mono ?_
 rintro e w' ⟨h1,f',h2,h3,h4,h5,h6⟩
 refine ⟨h1,f',h2,h3,?_,h6⟩
 obtain ⟨r,hr'⟩:∃ r,m = off + r:=⟨m - off,oM⟩
 subst hr'
 rw [Nat.add_sub_cancel_left] at h5
 rw [vs_add,h5,hvs,vs_congr (f:=f') (g:=f) (fun j hj=>h4 j oM),Nat.mul_add,<- Nat.add_assoc,<- vs_add,hT]
def MulBelow (N:Nat):Prop:=∀ (v u:Value) (x y:Nat) (w:World),IsNat w v x -> IsNat w u y -> wl x + wl y < N -> Calls Tryz.prog 222 #[v,u] w (RetMul w v u (x * y))
theorem split_at (x h:Nat):x % 4294967296 ^ h + 4294967296 ^ h * (x / 4294967296 ^ h) = x:=Nat.mod_add_div x _
theorem wl_mod (x h:Nat):wl (x % 4294967296 ^ h) <= h:=wl_le_of (Nat.mod_lt _ (Nat.pow_pos oM))
theorem mulShort_any (N:Nat) (hM:MulBelow N) (v u:Value) (x y:Nat) (w:World) (hv:IsNat w v x) (hu:IsNat w u y) (hN:wl x + wl y = N) (hN2:N < 549755813888)
  (h40:40 <= wl y) (h2:2 * wl y <= wl x + 1):Calls Tryz.prog 232 #[v,u] w (RetNew w (x * y)):=by
 have HU:=hid hu
 have HV:=hid hv
 have HM:=hid hM
 clear hM
 obtain ⟨h,hh⟩:∃ h,(wl x + 1) / 2 = h:=⟨_,rfl⟩
 have hh1:((wl x:Int) + 1) / 2 = (h:Int):=oM
 have hhx:h < wl x:=oM
 have hlow:=vs_dg x h
 obtain ⟨A,c,rfl,hc,hw⟩:=hv
 obtain ⟨b,off,rfl,hlt,hcell⟩:=hw oM
 have hw:=hid hw
 have hhi:=HV.out.high hhx
 have HH:=hid hhi
 obtain ⟨A',c',rfl,hc',hw'⟩:=hu
 have HL:=hid hlow
 clear hcell hhi hw' hlow
 have hxy:x * y < 4294967296 ^ (wl x + wl y):=by rw [Nat.pow_add]; exact Nat.mul_lt_mul'' (lt_wl x) (lt_wl y)
 have hxy2:x % 4294967296 ^ h * y + 4294967296 ^ h * (x / 4294967296 ^ h * y) = x * y:=by
  rw [<- Nat.mul_assoc,<- Nat.add_mul,split_at]
 have hm1:=wl_mod x h
 have hm2:wl (x / 4294967296 ^ h) = wl x - h:=wl_high hhx
 have hm3:=wl_mul (x % 4294967296 ^ h) y
 have HXY:=hid hxy
 have HXY2:=hid hxy2
 have HM2:=hid hm2
 clear hxy hxy2 hm2
 generalize x % 4294967296 ^ h = x0 at *
 generalize x / 4294967296 ^ h = x1 at *
 have HLX:wl x <= 549755813888:=oM
 have HLY:wl y <= 549755813888:=oM
 have hNs:wl x + wl y <= 549755813888:=oM
 have HN:=hid hN
 clear hN hN2
 generalize hlx:wl x = lx at *
 generalize hly:wl y = ly at *
 have HLX2:=hid hlx
 have HLY2:=hid hly
 have hm3:wl (x0 * y) <= h + ly:=oM
 clear hlx hly
 have hmk:∀ w,(Instr.makeSlice 45 (.int .i64 ((lx:Int) + (ly:Int) + 1)) (.int .i64 ((lx:Int) + (ly:Int) + 1))).run Tryz.prog w = .ok (.slice (some ⟨w.heap.size,0,none⟩) (lx + ly + 1) (lx + ly + 1)) (w.alloc (zrow (lx + ly + 1))):=fun w=>make_nat (lx + ly + 1) oM w
 go_enter Tryz.func232,Tryz.ntmps232
 go_wp2_with fail
 refine (trim_nat _ _ _ (dg x) _ ((hw.out.mono oM).below (below_alloc _ _)) (Wd_dg _ _) oM oM).mono ?_
 rintro e w1 ⟨v0,rfl,hv0,rfl⟩
 rw [HL.out] at hv0
 have HV0:=hid hv0
 clear hv0
 go_wp2_with fail
 refine (HM.out _ _ _ _ _ HV0.out (HU.out.below (below_alloc _ _)) (by rw [HLY2.out,<- HN.out]; omega)).mono ?_
 rintro e w2 ⟨r0,rfl,hr0,hb2,_⟩
 obtain ⟨Ar,cr,rfl,hnr,hwr⟩:=hr0
 have hrow2:=(Row.zrow w (lx + ly + 1)).below hb2 sP
 obtain ⟨w3,hcp,hr3,hg3⟩:=copy_run w2 w.heap.size 0 (lx + ly + 1) (lx + ly + 1) (wl (x0 * y)) cr (lx + ly + 1) (wl (x0 * y)) Ar (fun _=>0) (dg (x0 * y)) hrow2 hwr oM oM
 have hb3:Below w.heap.size w w3:=((below_alloc w (zrow (lx + ly + 1))).trans (hb2.mono sP)).grown hg3 (by have:=hb2.size; simp at this; omega) (fun k hk=>by cases hk; exact Nat.le_refl _)
 have hs3:w.heap.size < w3.heap.size:=by have:=hb2.size; have h5:=hg3.size; simp at this; omega
 have hT3:vs (cpy (fun _=>0) 0 (dg (x0 * y)) (wl (x0 * y))) (lx + ly + 1) = x0 * y:=by rw [vs_cpy_zero oM,vs_dg_wl]
 have hW3:=cpy_zero (f':=dg (x0 * y)) (k:=wl (x0 * y)) (Wd_dg _ _) (lx + ly + 1)
 have HB3:=hid hb3
 have HR3:=hid hr3
 have HT3:=hid hT3
 have HW3:=hid hW3
 clear hb3 hr3 hT3 hW3 hg3 hrow2 hb2 hwr
 generalize cpy (fun _=>0) 0 (dg (x0 * y)) (wl (x0 * y)) = f3 at *
 have hl2:wl x1 + wl y < N:=by rw [HM2.out,HLY2.out,<- HN.out]; omega
 have hni1:=HH.out.notNew lR
 have hni2:=HU.out.notNew lR
 have HI1:=hid hni1
 have HI2:=hid hni2
 have hc1:∀ q,Calls Tryz.prog 222 #[.slice (some ⟨b,off + h,none⟩) (lx - h) (c - h),.slice A' ly c'] (w3.drewN q) (RetMul (w3.drewN q) (.slice (some ⟨b,off + h,none⟩) (lx - h) (c - h)) (.slice A' ly c') (x1 * y)) :=
  fun q=>HM.out _ _ _ _ _ ((HH.out.below HB3.out).drewN q) ((HU.out.below HB3.out).drewN q) hl2
 have HC1:=hid hc1
 clear hl2 hni1 hni2 hc1
 have hbd1:(0:Int) <= (h:Int):=oM
 have hbd2:(h:Int) <= ((lx + ly + 1:Nat):Int):=oM
 have hbd3:(h:Int) <= (lx:Int):=oM
 have hbd4:(h:Int) <= (lx:Int) + (ly:Int) + 1:=oM
 have hbd5:h <= lx + ly + 1:=oM
 have hne1:¬ c = h:=oM
 have hne2:¬ lx + ly + 1 = h:=oM
 have hR3':Row (w3.drewN 1) w.heap.size (lx + ly + 1) f3:=HR3.out
 have hs3':w.heap.size < (w3.drewN 1).heap.size:=hs3
 have hB3':Below w.heap.size w (w3.drewN 1):=HB3.out.drew
 have hfit:x0 * y + 4294967296 ^ h * (x1 * y) < 4294967296 ^ (lx + ly + 1):=by
  rw [HXY2.out,Nat.pow_succ]
  have:=HXY.out
  omega
 have hmm:lx + ly + 1 <= 1099511627776:=oM
 have HR3':=hid hR3'
 have HS3':=hid hs3'
 have HB3':=hid hB3'
 have HFIT:=hid hfit
 have HMM:=hid hmm
 clear hR3' hs3' hB3' hfit hmm
 go_wp2_with fail
 go_region_held3 (fun _=>True) (trivial) (first | (go_at_call 222; refine (HC1.out 1).mono ?_; rintro e w4 ⟨r1,rfl,hr1,hb4,hnot⟩) | (go_at_call 242; refine (increase_tot w.heap.size h (lx + ly + 1) _ (x0 * y) (x1 * y) f3 r1 w4 (HR3'.out.below hb4 HS3'.out) HW3.out HT3.out hbd5 HMM.out hr1 (hnot _ HS3'.out HI1.out HI2.out) HFIT.out).mono ?_; rintro e w5 ⟨rfl,f5,hr5,hf5,hv5,hg5⟩))
 rw [HXY2.out] at hv5
 have HV5:=hid hv5
 have HR5:=hid hr5
 have hs4:w.heap.size < w4.heap.size:=lL HS3'.out hb4.size
 have HB5:=hid ((HB3'.out.trans (hb4.mono (Nat.le_of_lt HS3'.out))).grown hg5 (Nat.le_of_lt hs4) (fun k hk=>by cases hk; exact Nat.le_refl _))
 clear hv5 hr5 hg5 hb4 hnot hr1
 go_wp2_with fail
 refine (trim_at _ _ _ f5 _ HR5.out.wn0 hf5 oM oM).mono ?_
 rintro e w6 ⟨rfl,hvv,rfl⟩
 have HVV:=hid hvv
 clear hvv
 go_wp2
 go_ret
 exact ⟨_,rfl,by rw [<- HV5.out]; exact HVV.out,HB5.out,fun a n c h=>by cases h; exact Nat.le_refl _⟩
theorem RetMul.nat {w:World} {v u:Value} {x:Nat} {e:Ending} {w':World} (h:RetMul w v u x e w'):RetNat w x e w':=by
 obtain ⟨r,h1,h2,h3,_⟩:=h
 exact ⟨r,h1,h2,h3⟩
theorem MulBelow.nat {N:Nat} (hM:MulBelow N) {v u:Value} {x y:Nat} {w:World} (hv:IsNat w v x) (hu:IsNat w u y) (h:wl x + wl y < N):Calls Tryz.prog 222 #[v,u] w (RetNat w (x * y)) :=
 (hM v u x y w hv hu h).mono fun _ _ h=>h.nat
theorem mulHalves_any (N:Nat) (hM:MulBelow N) (v u:Value) (x y:Nat) (w:World) (hv:IsNat w v x) (hu:IsNat w u y) (hN:wl x + wl y = N) (hN2:N < 549755813888)
  (h40:40 <= wl y) (hle:wl y <= wl x) (h2:¬ 2 * wl y <= wl x + 1):Calls Tryz.prog 233 #[v,u] w (RetNew w (x * y)):=by
 have HU:=hid hu
 have HV:=hid hv
 have HM:=hid hM
 clear hM
 obtain ⟨h,hh⟩:∃ h,(wl x + 1) / 2 = h:=⟨_,rfl⟩
 have hh1:((wl x:Int) + 1) / 2 = (h:Int):=oM
 have hhx:h < wl x:=oM
 have hhy:h < wl y:=oM
 have HLX:=hid (vs_dg x h)
 have HLY:=hid (vs_dg y h)
 obtain ⟨A,c,rfl,hc,hw⟩:=hv
 obtain ⟨b,off,rfl,hlt,_⟩:=hw oM
 have hw:=hid hw
 have HHX:=hid (HV.out.high hhx)
 obtain ⟨A',c',rfl,hc',hw'⟩:=hu
 obtain ⟨b',off',rfl,hlt',_⟩:=hw' oM
 have hw':=hid hw'
 have HHY:=hid (HU.out.high hhy)
 have hm1:=wl_mod x h
 have hm2:=wl_mod y h
 have hm3:wl (x / 4294967296 ^ h) = wl x - h:=wl_high hhx
 have hm4:wl (y / 4294967296 ^ h) = wl y - h:=wl_high hhy
 have HSX:=hid (split_at x h)
 have HSY:=hid (split_at y h)
 have HXY:=hid (show x * y < 4294967296 ^ (wl x + wl y) by rw [Nat.pow_add]; exact Nat.mul_lt_mul'' (lt_wl x) (lt_wl y))
 generalize x % 4294967296 ^ h = x0 at *
 generalize x / 4294967296 ^ h = x1 at *
 generalize y % 4294967296 ^ h = y0 at *
 generalize y / 4294967296 ^ h = y1 at *
 have hm3':wl x1 <= wl x - h:=oM
 have hm4':wl y1 <= wl y - h:=oM
 clear hm3 hm4
 have HN:=hid hN
 have HLXb:wl x <= 549755813888:=oM
 have HLYb:wl y <= 549755813888:=oM
 have hNs:wl x + wl y <= 549755813888:=oM
 have hNN:N = wl x + wl y:=hN.symm
 have HNN:=hid hNN
 clear hN hN2 hNN
 generalize hlx:wl x = lx at *
 generalize hly:wl y = ly at *
 clear hlx hly
 have hne1:¬ c = h:=oM
 have hne2:¬ c' = h:=oM
 have hbd1:(0:Int) <= (h:Int):=oM
 have hbd2:(h:Int) <= (lx:Int):=oM
 have hbd3:(h:Int) <= (ly:Int):=oM
 have hbd4:(h:Int) <= (c:Int):=oM
 have hbd5:(h:Int) <= (c':Int):=oM
 have htx:∀ W,Below w.heap.size w W -> Calls Tryz.prog 148 #[.slice (some ⟨b,off,none⟩) h c] W fun e w'=>∃ v,e = .returned v /\ IsNat W v x0 /\ W = w':=fun W hW =>
  (trim_nat _ _ _ (dg x) _ ((hw.out.mono oM).below hW) (Wd_dg _ _) oM oM).mono fun e w' ⟨v,h1,h2,h3⟩=>⟨v,h1,by rw [HLX.out] at h2; exact h2,h3⟩
 have hty:∀ W,Below w.heap.size w W -> Calls Tryz.prog 148 #[.slice (some ⟨b',off',none⟩) h c'] W fun e w'=>∃ v,e = .returned v /\ IsNat W v y0 /\ W = w':=fun W hW =>
  (trim_nat _ _ _ (dg y) _ ((hw'.out.mono oM).below hW) (Wd_dg _ _) oM oM).mono fun e w' ⟨v,h1,h2,h3⟩=>⟨v,h1,by rw [HLY.out] at h2; exact h2,h3⟩
 have HTX:=hid htx
 have HTY:=hid hty
 clear htx hty
 go_enter Tryz.func233,Tryz.ntmps233
 go_wp2_with fail
 rw [hh1]
 go_region_held3 (fun _=>True) (trivial) ((go_at_call 148; refine (HTX.out _ (below_drewN w 1)).mono ?_; rintro e w1 ⟨vx0,rfl,hvx0,rfl⟩))
 have HX0:Hid (IsNat w vx0 x0):=hvx0
 clear hvx0
 go_wp2_with fail
 go_region_held3 (fun _=>True) (trivial) ((go_at_call 148; refine (HTY.out _ (below_drewN w 2)).mono ?_; rintro e w2 ⟨vy0,rfl,hvy0,rfl⟩))
 have HY0:Hid (IsNat w vy0 y0):=hvy0
 clear hvy0
 go_wp2_with fail
 refine (HM.out.nat (w:=w.drewN 2) (HX0.out.drewN 2) (HY0.out.drewN 2) (by rw [HNN.out]; omega)).mono ?_
 rintro e w3 ⟨rl,rfl,hrl,hb3⟩
 have HB3:=hid (bT (below_drewN w 2) hb3)
 have HRL:=hid hrl
 clear hrl hb3
 go_wp2_with fail
 refine (HM.out.nat (HHX.out.below HB3.out) (HHY.out.below HB3.out) (by rw [HNN.out]; omega)).mono ?_
 rintro e w4 ⟨rh,rfl,hrh,hb4⟩
 have HB4:=hid (bT HB3.out hb4)
 have HRL4:=hid (HRL.out.below hb4)
 have HRH:=hid hrh
 clear hrh hb4
 go_wp2_with fail
 refine (add_any _ _ _ _ _ (HX0.out.below HB4.out) (HHX.out.below HB4.out) oM oM).mono ?_
 rintro e w5 ⟨sx,rfl,hsx,hb5⟩
 have HB5:=hid (bT HB4.out hb5)
 have HRL5:=hid (HRL4.out.below hb5)
 have HRH5:=hid (HRH.out.below hb5)
 have HSX5:=hid hsx
 clear hsx hb5
 go_wp2_with fail
 refine (add_any _ _ _ _ _ (HY0.out.below HB5.out) (HHY.out.below HB5.out) oM oM).mono ?_
 rintro e w6 ⟨sy,rfl,hsy,hb6⟩
 have HB6:=hid (bT HB5.out hb6)
 have HRL6:=hid (HRL5.out.below hb6)
 have HRH6:=hid (HRH5.out.below hb6)
 have HSX6:=hid (HSX5.out.below hb6)
 have HSY6:=hid hsy
 clear hsy hb6
 have hws:=wl_add x0 x1
 have hwt:=wl_add y0 y1
 go_wp2_with fail
 refine (HM.out.nat HSX6.out HSY6.out (by rw [HNN.out]; omega)).mono ?_
 rintro e w7 ⟨p,rfl,hp,hb7⟩
 have HB7:=hid (bT HB6.out hb7)
 have HRL7:=hid (HRL6.out.below hb7)
 have HRH7:=hid (HRH6.out.below hb7)
 have HP7:=hid hp
 clear hp hb7
 have hwp:=wl_mul (x0 + x1) (y0 + y1)
 have hexp:(x0 + x1) * (y0 + y1) = x0 * y0 + (x0 * y1 + x1 * y0) + x1 * y1:=by grind
 have HEX:=hid hexp
 clear hexp
 go_wp2_with fail
 refine (sub_any _ _ _ _ _ HP7.out HRL7.out (by rw [HEX.out]; omega) oM).mono ?_
 rintro e w8 ⟨p2,rfl,hp2,hb8⟩
 have HB8:=hid (bT HB7.out hb8)
 have HRL8:=hid (HRL7.out.below hb8)
 have HRH8:=hid (HRH7.out.below hb8)
 rw [HEX.out,show x0 * y0 + (x0 * y1 + x1 * y0) + x1 * y1 - x0 * y0 = (x0 * y1 + x1 * y0) + x1 * y1 by omega] at hp2
 have HP8:=hid hp2
 clear hp2 hb8
 have hw8:wl ((x0 * y1 + x1 * y0) + x1 * y1) <= wl ((x0 + x1) * (y0 + y1)):=wl_mono (by rw [HEX.out]; omega)
 go_wp2_with fail
 refine (sub_any _ _ _ _ _ HP8.out HRH8.out oM oM).mono ?_
 rintro e w9 ⟨mid,rfl,hmid,hb9⟩
 have HB9:=hid (bT HB8.out hb9)
 have HRL9:=hid (HRL8.out.below hb9)
 have HRH9:=hid (HRH8.out.below hb9)
 rw [show (x0 * y1 + x1 * y0) + x1 * y1 - x1 * y1 = x0 * y1 + x1 * y0 by omega] at hmid
 have HMID:=hid hmid
 clear hmid hb9 hw8 hwp hws hwt
 clear HRL HRL4 HRL5 HRL6 HRL7 HRL8 HRH HRH5 HRH6 HRH7 HRH8 HB3 HB4 HB5 HB6 HB7 HB8 HSX5 HSX6 HSY6 HP7 HP8 HX0 HY0 HHX HHY
 have hmk:∀ w,(Instr.makeSlice 45 (.int .i64 ((lx:Int) + (ly:Int) + 1)) (.int .i64 ((lx:Int) + (ly:Int) + 1))).run Tryz.prog w = .ok (.slice (some ⟨w.heap.size,0,none⟩) (lx + ly + 1) (lx + ly + 1)) (w.alloc (zrow (lx + ly + 1))):=fun w=>make_nat (lx + ly + 1) oM w
 have hwlow:wl (x0 * y0) <= h + h:=Nat.le_trans (wl_mul x0 y0) oM
 obtain ⟨Ar,cr,rfl,hnr,hwr⟩:=HRL9.out
 obtain ⟨w10,hcp,hr10,hg10⟩:=copy_run (w9.alloc (zrow (lx + ly + 1))) w9.heap.size 0 (lx + ly + 1) (lx + ly + 1) (wl (x0 * y0)) cr (lx + ly + 1) (wl (x0 * y0)) Ar (fun _=>0) (dg (x0 * y0)) (Row.zrow _ _) (hwr.below (below_alloc _ _)) oM oM
 have hb10:Below w9.heap.size w9 w10:=(below_alloc w9 (zrow (lx + ly + 1))).grown hg10 sP (fun k hk=>by cases hk; exact Nat.le_refl _)
 have hT10:vs (cpy (fun _=>0) 0 (dg (x0 * y0)) (wl (x0 * y0))) (lx + ly + 1) = x0 * y0:=by rw [vs_cpy_zero oM,vs_dg_wl]
 have hW10:=cpy_zero (f':=dg (x0 * y0)) (k:=wl (x0 * y0)) (Wd_dg _ _) (lx + ly + 1)
 have HB10:=hid hb10
 have HR10:=hid hr10
 have HT10:=hid hT10
 have HW10:=hid hW10
 clear hb10 hr10 hT10 hW10 hg10 hwr
 generalize cpy (fun _=>0) 0 (dg (x0 * y0)) (wl (x0 * y0)) = f10 at *
 have htot:x0 * y0 + 4294967296 ^ h * (x0 * y1 + x1 * y0) + 4294967296 ^ (2 * h) * (x1 * y1) = x * y:=by
  rw [<- HSX.out,<- HSY.out,Nat.two_mul,Nat.pow_add]
  generalize 4294967296 ^ h = P
  grind
 have HTOT:=hid htot
 clear htot
 go_wp2_with fail
 refine (increase_tot w9.heap.size h (lx + ly + 1) _ (x0 * y0) (x0 * y1 + x1 * y0) f10 mid w10 HR10.out HW10.out HT10.out oM oM (HMID.out.below HB10.out) (HMID.out.notNew lR) ?_).mono ?_
 ·have h1:=HTOT.out
  have h2:=HXY.out
  rw [Nat.pow_succ]
  omega
 rintro e w11 ⟨rfl,f11,hr11,hf11,hv11,hg11⟩
 have hs10:w9.heap.size < w10.heap.size:=HR10.out.lt
 have HB11:=hid (HB10.out.grown hg11 (Nat.le_of_lt hs10) (fun k hk=>by cases hk; exact Nat.le_refl _))
 have HR11:=hid hr11
 have HV11:=hid hv11
 clear hr11 hv11 hg11
 have hb2h:2 * h <= lx + ly + 1:=oM
 have hne3:¬ lx + ly + 1 = 2 * h:=oM
 go_wp2_with fail
 refine (increase_tot w9.heap.size (2 * h) (lx + ly + 1) _ _ (x1 * y1) f11 rh w11 HR11.out hf11 HV11.out oM oM (HRH9.out.below HB11.out) (HRH9.out.notNew lR) ?_).mono ?_
 ·rw [HTOT.out]
  have h2:=HXY.out
  rw [Nat.pow_succ]
  omega
 rintro e w12 ⟨rfl,f12,hr12,hf12,hv12,hg12⟩
 rw [HTOT.out] at hv12
 have hs11:w9.heap.size < w11.heap.size:=HR11.out.lt
 have HB12:=hid (HB11.out.grown hg12 (Nat.le_of_lt hs11) (fun k hk=>by cases hk; exact Nat.le_refl _))
 have HR12:=hid hr12
 have HV12:=hid hv12
 clear hr12 hv12 hg12
 go_wp2_with fail
 refine (trim_at _ _ _ f12 _ HR12.out.wn0 hf12 oM oM).mono ?_
 rintro e w13 ⟨rfl,hvv,rfl⟩
 have HVV:=hid hvv
 clear hvv
 have HB9s:=HB9.out.size
 go_wp2
 go_ret
 exact ⟨_,rfl,by rw [<- HV12.out]; exact HVV.out,bT HB9.out HB12.out,fun a n c h=>by cases h; exact HB9s⟩
theorem mul_ge (N:Nat) (hM:MulBelow N) (v u:Value) (x y:Nat) (w:World) (hv:IsNat w v x) (hu:IsNat w u y) (hN:wl x + wl y = N) (hN2:N < 549755813888) (hl:wl y <= wl x) :
  Calls Tryz.prog 222 #[v,u] w (RetMul w v u (x * y)):=by
 have HM:=hid hM
 have HV:=hid hv
 have HU:=hid hu
 have HN:=hid hN
 have hb1:wl x <= 549755813888:=oM
 have hb2:wl y <= 549755813888:=oM
 have hb3:wl x + wl y <= 549755813888:=oM
 clear hM hN
 have HL:=hid (show wl x + wl y = N by have:=HN.out; omega)
 have HN2:=hid hN2
 clear hN2
 obtain ⟨A,c,rfl,hc,hw⟩:=hv
 obtain ⟨A',c',rfl,hc',hw'⟩:=hu
 clear hw hw'
 have hiso:=isOne_any (.slice A' (wl y) c') y w HU.out
 have HI:=hid hiso
 clear hiso
 rcases Nat.eq_zero_or_pos (wl y) with h0 | h0
 ·have hs0:=wl_eq_zero.1 h0
  have hz:x * y = 0:=by rw [hs0]; simp
  rw [hz]
  rw [h0] at *
  clear hz hs0 h0 HI
  generalize wl x = nl at *
  go_enter Tryz.func222,Tryz.ntmps222
  go_wp2
  go_ret
  exact ⟨_,rfl,IsNat.zero _ _ _,Below.refl _ _,fun g _ _ _ a n c h=>by cases h⟩
 have hs0:((wl y:Int) == 0) = false:=sO
 by_cases h1:y = 1
 ·have h1d:decide (y = 1) = true:=by simp [h1]
  rw [h1d] at HI
  have hx1:x * y = x:=by rw [h1]; simp
  rw [hx1]
  clear h1d hx1
  have HS1:=hid h1
  clear h1
  generalize hnx:wl x = nx at *
  generalize hny:wl y = ny at *
  clear hnx hny
  go_enter Tryz.func222,Tryz.ntmps222
  go_wp2_with fail
  refine HI.out.mono ?_
  rintro e w' ⟨rfl,rfl⟩
  go_wp2
  go_ret
  exact ⟨_,rfl,HV.out,Below.refl _ _,fun g _ hgv hgu=>hgv⟩
 have h1d:decide (y = 1) = false:=by simp [h1]
 rw [h1d] at HI
 clear h1d h1
 by_cases h40:wl y < 40
 ·have hp:=mulPlain_any _ _ x y w HV.out HU.out oM oM
  have HP:=hid hp
  clear hp
  generalize hnx:wl x = nx at *
  generalize hny:wl y = ny at *
  clear hnx hny
  go_enter Tryz.func222,Tryz.ntmps222
  go_wp2_with fail
  refine HI.out.mono ?_
  rintro e w' ⟨rfl,rfl⟩
  go_wp2_with fail
  refine HP.out.mono ?_
  rintro e w1 hr
  obtain ⟨r,rfl,h2,h3,h4⟩:=RetNew.mul hr (.slice A nx c) (.slice A' ny c')
  have H2:=hid h2
  have H3:=hid h3
  have H4:=hid h4
  clear h2 h3 h4 hr
  go_wp2
  go_ret
  exact ⟨r,rfl,by first | exact H2.out | (have:=H2.out; rw [Nat.mul_comm] at this; exact this),H3.out,H4.out⟩
 by_cases hsh:2 * wl y <= wl x + 1
 ·have hp:=mulShort_any N HM.out _ _ x y w HV.out HU.out HL.out HN2.out oM hsh
  have HP:=hid hp
  clear hp
  generalize hnx:wl x = nx at *
  generalize hny:wl y = ny at *
  clear hnx hny
  go_enter Tryz.func222,Tryz.ntmps222
  go_wp2_with fail
  refine HI.out.mono ?_
  rintro e w' ⟨rfl,rfl⟩
  go_wp2_with fail
  refine HP.out.mono ?_
  rintro e w1 hr
  obtain ⟨r,rfl,h2,h3,h4⟩:=RetNew.mul hr (.slice A nx c) (.slice A' ny c')
  have H2:=hid h2
  have H3:=hid h3
  have H4:=hid h4
  clear h2 h3 h4 hr
  go_wp2
  go_ret
  exact ⟨r,rfl,by first | exact H2.out | (have:=H2.out; rw [Nat.mul_comm] at this; exact this),H3.out,H4.out⟩
 ·have hp:=mulHalves_any N HM.out _ _ x y w HV.out HU.out HL.out HN2.out oM oM hsh
  have HP:=hid hp
  clear hp
  have hsh2:((wl x:Int) + 1) < 2 * (wl y:Int):=oM
  generalize hnx:wl x = nx at *
  generalize hny:wl y = ny at *
  clear hnx hny
  go_enter Tryz.func222,Tryz.ntmps222
  go_wp2_with fail
  refine HI.out.mono ?_
  rintro e w' ⟨rfl,rfl⟩
  go_wp2_with fail
  refine HP.out.mono ?_
  rintro e w1 hr
  obtain ⟨r,rfl,h2,h3,h4⟩:=RetNew.mul hr (.slice A nx c) (.slice A' ny c')
  have H2:=hid h2
  have H3:=hid h3
  have H4:=hid h4
  clear h2 h3 h4 hr
  go_wp2
  go_ret
  exact ⟨r,rfl,by first | exact H2.out | (have:=H2.out; rw [Nat.mul_comm] at this; exact this),H3.out,H4.out⟩
theorem mul_lt (N:Nat) (hM:MulBelow N) (v u:Value) (x y:Nat) (w:World) (hv:IsNat w v x) (hu:IsNat w u y) (hN:wl x + wl y = N) (hN2:N < 549755813888) (hl:wl x < wl y) :
  Calls Tryz.prog 222 #[v,u] w (RetMul w v u (x * y)):=by
 have HM:=hid hM
 have HV:=hid hv
 have HU:=hid hu
 have HN:=hid hN
 have hb1:wl x <= 549755813888:=oM
 have hb2:wl y <= 549755813888:=oM
 have hb3:wl x + wl y <= 549755813888:=oM
 clear hM hN
 have HL:=hid (show wl y + wl x = N by have:=HN.out; omega)
 have HN2:=hid hN2
 clear hN2
 obtain ⟨A,c,rfl,hc,hw⟩:=hv
 obtain ⟨A',c',rfl,hc',hw'⟩:=hu
 clear hw hw'
 have hiso:=isOne_any (.slice A (wl x) c) x w HV.out
 have HI:=hid hiso
 clear hiso
 rcases Nat.eq_zero_or_pos (wl x) with h0 | h0
 ·have hs0:=wl_eq_zero.1 h0
  have hz:x * y = 0:=by rw [hs0]; simp
  rw [hz]
  rw [h0] at *
  clear hz hs0 h0 HI
  generalize wl y = nl at *
  go_enter Tryz.func222,Tryz.ntmps222
  go_wp2
  go_ret
  exact ⟨_,rfl,IsNat.zero _ _ _,Below.refl _ _,fun g _ _ _ a n c h=>by cases h⟩
 have hs0:((wl x:Int) == 0) = false:=sO
 by_cases h1:x = 1
 ·have h1d:decide (x = 1) = true:=by simp [h1]
  rw [h1d] at HI
  have hx1:x * y = y:=by rw [h1]; simp
  rw [hx1]
  clear h1d hx1
  have HS1:=hid h1
  clear h1
  generalize hnx:wl x = nx at *
  generalize hny:wl y = ny at *
  clear hnx hny
  go_enter Tryz.func222,Tryz.ntmps222
  go_wp2_with fail
  refine HI.out.mono ?_
  rintro e w' ⟨rfl,rfl⟩
  go_wp2
  go_ret
  exact ⟨_,rfl,HU.out,Below.refl _ _,fun g _ hgv hgu=>hgu⟩
 have h1d:decide (x = 1) = false:=by simp [h1]
 rw [h1d] at HI
 clear h1d h1
 by_cases h40:wl x < 40
 ·have hp:=mulPlain_any _ _ y x w HU.out HV.out oM oM
  have HP:=hid hp
  clear hp
  generalize hnx:wl x = nx at *
  generalize hny:wl y = ny at *
  clear hnx hny
  go_enter Tryz.func222,Tryz.ntmps222
  go_wp2_with fail
  refine HI.out.mono ?_
  rintro e w' ⟨rfl,rfl⟩
  go_wp2_with fail
  refine HP.out.mono ?_
  rintro e w1 hr
  obtain ⟨r,rfl,h2,h3,h4⟩:=RetNew.mul hr (.slice A nx c) (.slice A' ny c')
  have H2:=hid h2
  have H3:=hid h3
  have H4:=hid h4
  clear h2 h3 h4 hr
  go_wp2
  go_ret
  exact ⟨r,rfl,by first | exact H2.out | (have:=H2.out; rw [Nat.mul_comm] at this; exact this),H3.out,H4.out⟩
 by_cases hsh:2 * wl x <= wl y + 1
 ·have hp:=mulShort_any N HM.out _ _ y x w HU.out HV.out HL.out HN2.out oM hsh
  have HP:=hid hp
  clear hp
  generalize hnx:wl x = nx at *
  generalize hny:wl y = ny at *
  clear hnx hny
  go_enter Tryz.func222,Tryz.ntmps222
  go_wp2_with fail
  refine HI.out.mono ?_
  rintro e w' ⟨rfl,rfl⟩
  go_wp2_with fail
  refine HP.out.mono ?_
  rintro e w1 hr
  obtain ⟨r,rfl,h2,h3,h4⟩:=RetNew.mul hr (.slice A nx c) (.slice A' ny c')
  have H2:=hid h2
  have H3:=hid h3
  have H4:=hid h4
  clear h2 h3 h4 hr
  go_wp2
  go_ret
  exact ⟨r,rfl,by first | exact H2.out | (have:=H2.out; rw [Nat.mul_comm] at this; exact this),H3.out,H4.out⟩
 ·have hp:=mulHalves_any N HM.out _ _ y x w HU.out HV.out HL.out HN2.out oM oM hsh
  have HP:=hid hp
  clear hp
  have hsh2:((wl y:Int) + 1) < 2 * (wl x:Int):=oM
  generalize hnx:wl x = nx at *
  generalize hny:wl y = ny at *
  clear hnx hny
  go_enter Tryz.func222,Tryz.ntmps222
  go_wp2_with fail
  refine HI.out.mono ?_
  rintro e w' ⟨rfl,rfl⟩
  go_wp2_with fail
  refine HP.out.mono ?_
  rintro e w1 hr
  obtain ⟨r,rfl,h2,h3,h4⟩:=RetNew.mul hr (.slice A nx c) (.slice A' ny c')
  have H2:=hid h2
  have H3:=hid h3
  have H4:=hid h4
  clear h2 h3 h4 hr
  go_wp2
  go_ret
  exact ⟨r,rfl,by first | exact H2.out | (have:=H2.out; rw [Nat.mul_comm] at this; exact this),H3.out,H4.out⟩
theorem mul_below:∀ N,N <= 549755813888 -> MulBelow N
 | 0,_=>fun _ _ _ _ _ _ _ h=>oM
 | N + 1,hN=>fun v u x y w hv hu h=>by
  have ih:=mul_below N oM
  rcases Nat.lt_or_ge (wl x + wl y) N with h1 | h1
  ·exact ih v u x y w hv hu h1
  ·rcases Nat.lt_or_ge (wl x) (wl y) with h2 | h2
   ·exact mul_lt N ih v u x y w hv hu oM oM h2
   ·exact mul_ge N ih v u x y w hv hu oM oM h2
theorem mul_any (v u:Value) (x y:Nat) (w:World) (hv:IsNat w v x) (hu:IsNat w u y) (h:wl x + wl y < 549755813888):Calls Tryz.prog 222 #[v,u] w (RetNat w (x * y)) :=
 (mul_below 549755813888 lR).nat hv hu h
theorem vs_cons (f:Nat -> Nat) (k m:Nat):vs (fun j=>f (k + j)) (m + 1) = f k + 4294967296 * vs (fun j=>f (k + 1 + j)) m:=by
 rw [Nat.add_comm m 1,vs_add,vs_one,Nat.add_zero,Nat.pow_one]
 congr 2
 exact vs_congr fun j _=>by rw [Nat.add_assoc]
theorem divw_step {fx f':Nat -> Nat} {k m d rest q r:Nat} (h1:vs (fun j=>fx (k + 1 + j)) m = vs (fun j=>f' (k + 1 + j)) m * d + rest) (h2:q * d + r = rest * 4294967296 + fx k) :
  vs (fun j=>fx (k + j)) (m + 1) = vs (fun j=>upd f' k q (k + j)) (m + 1) * d + r:=by
 rw [vs_cons,vs_cons,h1,upd_same,vs_congr (f:=fun j=>upd f' k q (k + 1 + j)) (g:=fun j=>f' (k + 1 + j)) (fun j _=>upd_other _ _ oM)]
 generalize vs (fun j=>f' (k + 1 + j)) m = V
 grind
theorem divWord_any (g n cq cx d:Nat) (f:Nat -> Nat) (A:Option Addr) (fx:Nat -> Nat) (w:World)
  (hr:Row w g n f) (hx:Wn w A n fx) (hfx:Wd fx n) (hA:0 < n -> ∀ a,A = some a -> a.block ≠ g) (hn:n <= 1099511627776) (hd0:0 < d) (hd:d < 4294967296) :
  Calls Tryz.prog 206 #[.slice (some ⟨g,0,none⟩) n cq,.slice A n cx,.int .u32 (d:Int)] w fun e w'=>∃ r f',e = .returned (.int .u32 ((r:Nat):Int)) /\ Row w' g n f' /\ Wd f' n /\
   vs fx n = vs f' n * d + r /\ r < d /\ w.grownBy w' (some g):=by
 have HX:=hid hx; clear hx
 have HA:=hid hA; clear hA
 have HR:=hid hr; clear hr
 go_enter Tryz.func206,Tryz.ntmps206
 go_wp2
 go_loopw [7,8] (fun rv i wr=>∃ k rest:Nat,k <= n /\ i = .int .i64 ((k:Int) - 1) /\ rv = .int .u32 rest /\ rest < d /\ ∃ f',Row wr g n f' /\ (∀ j,k <= j -> j < n -> f' j < 4294967296) /\
   vs (fun j=>fx (k + j)) (n - k) = vs (fun j=>f' (k + j)) (n - k) * d + rest /\ w.grownBy wr (some g)) (fun _ i _=>(intOf i + 1).toNat)
 case atStart=>exact ⟨n,0,oM,rfl,rfl,hd0,f,HR.out,fun j h1 h2=>oM,by rw [Nat.sub_self,vs_zero,vs_zero]; simp,grown_refl _ _⟩
 case round =>
  obtain ⟨k,rest,hk,rfl,rfl,hrd,f',hrow,hfw,hv,hg⟩:=hrel
  have HV:=hid hv; clear hv
  have HF:=hid hfw; clear hfw
  have HG:=hid hg; clear hg
  have HRO:=hid hrow; clear hrow
  rcases Nat.eq_zero_or_pos k with h0 | h0
  ·subst h0
   go_wp2
   go_ret
   have hv:=HV.out
   simp only [Nat.zero_add,Nat.sub_zero] at hv
   exact ⟨rest,f',rfl,HRO.out,fun j hj=>HF.out j oM hj,hv,hrd,HG.out⟩
  ·obtain ⟨k2,rfl⟩:∃ k2,k = k2 + 1:=⟨k - 1,oM⟩
   obtain ⟨b,o2,rfl,hb,hc1⟩:=(HX.out.grown HG.out (fun a ha=>by have:=HA.out oM a ha; simp; omega)) oM
   have hcell:=hc1 k2 oM
   have hz:=HRO.out.cell (j:=k2) oM
   have hzf:=HRO.out.frozen k2
   clear hc1
   have hw1:=hfx k2 oM
   go_wp2_with (go_at_call 217; refine (div32_any _ _ _ _ hrd hw1 hd).mono ?_; rintro e w' ⟨s,r,rfl,hs,hr1,hs1,q,rfl⟩; have HS:=hid hs; clear hs)
   go_roundw
   case rel=>exact ⟨k2,r,oM,by go_num,rfl,hr1,upd f' k2 s,HRO.out.set_ oM s,fun j h1 h2=>by
     unfold upd
     split
     ·exact hs1
     ·exact HF.out j oM h2,by
     have hv:=HV.out
     rw [show n - (k2 + 1) = n - k2 - 1 by omega] at hv
     rw [show n - k2 = (n - k2 - 1) + 1 by omega]
     exact divw_step hv HS.out,grown_trans (grown_drewN HG.out q) (grown_set _ _ _ _)⟩
   case measure=>simp [intOf]
theorem decr_row {f f' fy:Nat -> Nat} {off k t cc p wd d b b':Nat} (hv:vs (fun j=>f' (off + j)) k + vs fy k * wd = vs (fun j=>f (off + j)) k + (cc + b) * 4294967296 ^ k)
  (ht:t = cc + p) (hp:p = fy k * wd) (hs:d + t % 4294967296 + b = f' (off + k) + b' * 4294967296) (hk:f' (off + k) = f (off + k)) :
  vs (fun j=>upd f' (off + k) d (off + j)) (k + 1) + vs fy (k + 1) * wd = vs (fun j=>f (off + j)) (k + 1) + (t / 4294967296 + b') * 4294967296 ^ (k + 1):=by
 rw [vs_succ,vs_succ,vs_succ,vs_upd_off,upd_same,Nat.pow_succ]
 have h1:t % 4294967296 + t / 4294967296 * 4294967296 = t:=oM
 rw [hk] at hs
 generalize t % 4294967296 = s at *
 generalize t / 4294967296 = kk at *
 generalize 4294967296 ^ k = P at *
 subst hp
 grind
theorem decr_end {f f':Nat -> Nat} {off n d b b' cc Y:Nat} (hv:vs (fun j=>f' (off + j)) n + Y = vs (fun j=>f (off + j)) n + (cc + b) * 4294967296 ^ n)
  (hs:d + cc + b = f' (off + n) + b' * 4294967296) (hk:f' (off + n) = f (off + n)) :
  vs (fun j=>upd f' (off + n) d (off + j)) (n + 1) + Y = vs (fun j=>f (off + j)) (n + 1) + b' * 4294967296 ^ (n + 1):=by
 rw [vs_succ,vs_succ,vs_upd_off,upd_same,Nat.pow_succ]
 rw [hk] at hs
 generalize 4294967296 ^ n = P at *
 grind
theorem decreaseBy_any (g off n nx cx cy wd:Nat) (f:Nat -> Nat) (m:Nat) (A:Option Addr) (fy:Nat -> Nat) (w:World)
  (hr:Row w g m f) (hf:Wd f m) (hon:off + n + 1 <= m) (hnx:nx = n + 1) (hy:Wn w A n fy) (hfy:Wd fy n) (hA:0 < n -> ∀ a,A = some a -> a.block ≠ g) (hm:m <= 1099511627776) (hw:wd < 4294967296) :
  Calls Tryz.prog 229 #[.slice (some ⟨g,off,none⟩) nx cx,.slice A n cy,.int .u32 (wd:Int)] w fun e w'=>∃ (b:Nat) (f':Nat -> Nat),e = .returned (.bool (decide (b = 1))) /\ b <= 1 /\ Row w' g m f' /\ Wd f' m /\
   (∀ j,j < off ∨ off + n + 1 <= j -> f' j = f j) /\ vs (fun j=>f' (off + j)) (n + 1) + vs fy n * wd = vs (fun j=>f (off + j)) (n + 1) + b * 4294967296 ^ (n + 1) /\ w.grownBy w' (some g):=by
 subst hnx
 have HY:=hid hy; clear hy
 have HA:=hid hA; clear hA
 have HR:=hid hr; clear hr
 go_enter Tryz.func229,Tryz.ntmps229
 go_wp2
 go_loopw [7,8,13] (fun cv bv i wr=>∃ k cc b:Nat,k <= n /\ i = .int .i64 k /\ cv = .int .u64 cc /\ bv = .int .u32 b /\ cc < 4294967296 /\ b <= 1 /\ ∃ f',Row wr g m f' /\ Wd f' m /\ (∀ j,j < off ∨ off + k <= j -> f' j = f j) /\
   vs (fun j=>f' (off + j)) k + vs fy k * wd = vs (fun j=>f (off + j)) k + (cc + b) * 4294967296 ^ k /\ w.grownBy wr (some g)) (fun _ _ i _=>n - (intOf i).toNat)
 case atStart=>exact ⟨0,0,0,oM,rfl,rfl,rfl,oM,oM,f,HR.out,hf,fun _ _=>rfl,by simp [vs_zero],grown_refl _ _⟩
 case round =>
  obtain ⟨k,cc,b,hk,rfl,rfl,rfl,hcc,hb1,f',hrow,hfw,hkeep,hv,hg⟩:=hrel
  have HV:=hid hv; clear hv
  have HK:=hid hkeep; clear hkeep
  have HG:=hid hg; clear hg
  have HRO:=hid hrow; clear hrow
  by_cases hlt:k < n
  ·obtain ⟨b2,o2,rfl,hb,hc1⟩:=(HY.out.grown HG.out (fun a ha=>by have:=HA.out oM a ha; simp; omega)) oM
   have hcell:=hc1 k hlt
   have hz:=HRO.out.cell (j:=off + k) oM
   have hzf:=HRO.out.frozen (off + k)
   clear hc1
   have hw1:=hfy k hlt
   have hw2:=hfw (off + k) oM
   obtain ⟨p,hp,hpe,hpl⟩:=mul_nat (fy k) wd hw1 hw
   have HP:=hid hpe
   clear hpe
   go_wp2_with fail
   refine (sub32_any (f' (off + k)) ((cc + p) % 4294967296) b _ hw2 oM hb1).mono ?_
   rintro e w' ⟨d,b',rfl,hs,hs1,hkk,rfl⟩
   have HS:=hid hs
   clear hs
   go_wp2
   go_roundw
   case rel=>exact ⟨k + 1,(cc + p) / 4294967296,b',oM,by go_num,rfl,rfl,oM,hkk,upd f' (off + k) d,HRO.out.set_ oM d,hfw.upd _ hs1,fun j hj=>by rw [upd_other _ _ oM]; exact HK.out j oM,decr_row HV.out rfl HP.out HS.out (HK.out _ oM),grown_trans HG.out (grown_set _ _ _ _)⟩
   case measure=>exact mS
  ·obtain rfl:k = n:=oM
   have hz:=HRO.out.cell (j:=off + k) oM
   have hzf:=HRO.out.frozen (off + k)
   have hw2:=hfw (off + k) oM
   go_wp2_with fail
   refine (sub32_any (f' (off + k)) cc b _ hw2 oM hb1).mono ?_
   rintro e w' ⟨d,b',rfl,hs,hs1,hkk,rfl⟩
   have HS:=hid hs
   clear hs
   have hbd:((b':Int) != 0) = decide (b' = 1):=by rcases (show b' = 0 ∨ b' = 1 by omega) with h | h <;> subst h <;> rfl
   go_wp2
   go_ret
   exact ⟨b',upd f' (off + k) d,rfl,hkk,HRO.out.set_ oM d,hfw.upd _ hs1,fun j hj=>by rw [upd_other _ _ oM]; exact HK.out j oM,decr_end HV.out HS.out (HK.out _ oM),grown_trans HG.out (grown_set _ _ _ _)⟩
theorem guess_mul {y1 t rest T y0:Nat} (h:y1 * t + rest = T):t * (y1 * 4294967296 + y0) + rest * 4294967296 = T * 4294967296 + t * y0:=by
 subst h
 grind
theorem guess_exit1 {y1 t rest T y0 x0:Nat} (h:y1 * t + rest = T) (hr:4294967296 <= rest) (hT:T <= y1 * 4294967296 + 4294967295) (hy0:y0 < 4294967296) :
  t < 4294967296 /\ t * (y1 * 4294967296 + y0) <= T * 4294967296 + x0:=by
 have h1:t < 4294967296:=by
  rcases Nat.lt_or_ge t 4294967296 with h1 | h1
  ·exact h1
  ·have:=Nat.mul_le_mul_left y1 h1
   omega
 have h2:=guess_mul (y0:=y0) h
 have h3:t * y0 <= 4294967295 * 4294967295:=Nat.mul_le_mul oM oM
 exact ⟨h1,oM⟩
theorem guess_exit2 {y1 t rest T y0 x0:Nat} (h:y1 * t + rest = T) (hr:t * y0 <= rest * 4294967296 + x0) :
  t * (y1 * 4294967296 + y0) <= T * 4294967296 + x0:=by
 have h2:=guess_mul (y0:=y0) h
 omega
theorem guess_dec {y1 t rest T y0 x0 Q:Nat} (h:y1 * t + rest = T) (hr:rest * 4294967296 + x0 < t * y0) (hQ:Q * (y1 * 4294967296 + y0) <= T * 4294967296 + x0):Q + 1 <= t:=by
 rcases Nat.lt_or_ge Q t with h1 | h1
 ·exact h1
 ·have h2:=guess_mul (y0:=y0) h
  have h3:=Nat.mul_le_mul_right (y1 * 4294967296 + y0) h1
  omega
theorem guess_next {y1 t rest T:Nat} (h:y1 * (t + 1) + rest = T):y1 * t + (rest + y1) = T:=by rw [Nat.mul_add] at h; omega
def GuessRel (y1 T Q:Nat) (wv rv:Value):Prop:=∃ t rest:Nat,wv = .int .u64 t /\ rv = .int .u64 rest /\ y1 * t + rest = T /\ Q <= t /\ t <= 4294967297
theorem guess_any (x2 x1 x0 y1 y0:Nat) (w:World) (h2:x2 < 4294967296) (h1:x1 < 4294967296) (h0:x0 < 4294967296) (hy1:y1 < 4294967296) (hy0:y0 < 4294967296)
  (htop:2147483648 <= y1) (hle:x2 <= y1) (Q:Nat) (hQ:Q * (y1 * 4294967296 + y0) <= (x2 * 4294967296 + x1) * 4294967296 + x0) (hQ2:Q < 4294967296) :
  Calls Tryz.prog 228 #[.int .u32 (x2:Int),.int .u32 (x1:Int),.int .u32 (x0:Int),.int .u32 (y1:Int),.int .u32 (y0:Int)] w fun e w'=>∃ t:Nat,e = .returned (.int .u32 (t:Int)) /\ Q <= t /\ t < 4294967296 /\
   t * (y1 * 4294967296 + y0) <= (x2 * 4294967296 + x1) * 4294967296 + x0 /\ ∃ q,w' = w.drewN q:=by
 obtain ⟨T,hT⟩:∃ T,x1 + x2 * 4294967296 = T:=⟨_,rfl⟩
 have hor:bits .or .u64 ((x2:Int) * 4294967296) (x1:Int) = (T:Int):=by rw [or64 x2 x1 h2 h1,hT]
 have hT2:T < 18446744073709551616:=oM
 have hTy:T <= y1 * 4294967296 + 4294967295:=oM
 have hw0:T / y1 <= 4294967297:=by
  have:T / y1 < 4294967298:=Nat.div_lt_of_lt_mul oM
  omega
 obtain ⟨w0,hw0e⟩:∃ w0,T / y1 = w0:=⟨_,rfl⟩
 obtain ⟨r0,hr0e⟩:∃ r0,T % y1 = r0:=⟨_,rfl⟩
 have hdm:=Nat.div_add_mod T y1
 have hr0:r0 < y1:=by rw [<- hr0e]; exact Nat.mod_lt _ oM
 rw [hw0e] at hw0
 rw [hw0e,hr0e] at hdm
 have hq1:IntKind.u64.wrap ((T:Int) / (y1:Int)) = (w0:Int):=by rw [<- Int.natCast_ediv,hw0e,IntKind.wrap_u64]; omega
 have hr1:(T:Int) % (y1:Int) = (r0:Int):=by rw [<- Int.natCast_emod,hr0e]
 have hy1n:((y1:Int) == 0) = false:=sO
 have hX:(x2 * 4294967296 + x1) * 4294967296 + x0 = T * 4294967296 + x0:=oM
 rw [hX] at hQ
 have hQw:Q <= w0:=by
  rw [<- hw0e]
  refine (Nat.le_div_iff_mul_le oM).2 ?_
  have h3:Q * (y1 * 4294967296 + y0) = Q * y1 * 4294967296 + Q * y0:=by rw [Nat.mul_add,Nat.mul_assoc]
  rw [h3] at hQ
  have h4:Q * y1 * 4294967296 < (T + 1) * 4294967296:=oM
  have:=Nat.lt_of_mul_lt_mul_right h4
  omega
 rw [hX]
 have HQ:=hid hQ
 have HT:=hid hT
 have HDM:=hid hdm
 clear hX hQ hT hdm hw0e hr0e
 go_enter Tryz.func228,Tryz.ntmps228
 go_wp2
 go_quiet (fail)
 go_wp2
 go_loop [12,13] (fun wv rv=>GuessRel y1 T Q wv rv) (fun wv _=>(intOf wv).toNat)
 case atStart=>exact ⟨w0,r0,rfl,by rw [hr1],HDM.out,hQw,hw0⟩
 case round =>
  obtain ⟨t,rest,rfl,rfl,he,hQt,ht⟩:=hrel
  have HE:=hid he; clear he
  have hrl:rest <= T:=by have:=HE.out; omega
  by_cases c1:4294967296 <= rest
  ·have hc1:((rest:Int) / 4294967296 == 0) = false:=sO
   have HX1:=hid (guess_exit1 (x0:=x0) HE.out c1 hTy hy0)
   have htl:=HX1.out.1
   go_wp2
   go_ret
   exact ⟨t,rfl,hQt,htl,HX1.out.2,_,rfl⟩
  ·have hc1:((rest:Int) / 4294967296 == 0) = true:=sO
   by_cases c2:4294967296 <= t
   ·have hc2:((t:Int) / 4294967296 != 0) = true:=sO
    obtain ⟨t2,rfl⟩:∃ t2,t = t2 + 1:=⟨t - 1,oM⟩
    have HN:=hid (guess_next HE.out)
    go_wp2
    go_round
    case rel=>exact ⟨t2,rest + y1,by go_num,by go_num,HN.out,oM,oM⟩
    case measure=>exact mS
   ·have hc2:((t:Int) / 4294967296 != 0) = false:=sO
    obtain ⟨p,hp,hpe,hpl⟩:=mul_nat t y0 oM hy0
    have hor2:=or64 rest x0 oM h0
    by_cases c3:rest * 4294967296 + x0 < t * y0
    ·have hdc:=guess_dec HE.out c3 HQ.out
     have HN:=hid (guess_next (t:=t - 1) (show y1 * (t - 1 + 1) + rest = T by rw [Nat.sub_add_cancel oM]; exact HE.out))
     rw [<- hpe] at c3
     have hc3:decide (((x0 + rest * 4294967296:Nat):Int) < (p:Int)) = true:=sO
     clear hpe
     go_wp2
     go_round
     case rel=>exact ⟨t - 1,rest + y1,by congr 1; omega,by go_num,HN.out,oM,oM⟩
     case measure=>exact mS
    ·have HX2:=hid (guess_exit2 (x0:=x0) HE.out (show t * y0 <= rest * 4294967296 + x0 by omega))
     rw [<- hpe] at c3
     have hc3:decide (((x0 + rest * 4294967296:Nat):Int) < (p:Int)) = false:=sO
     have htl:t < 4294967296:=oM
     clear hpe
     go_wp2
     go_ret
     exact ⟨t,rfl,hQt,htl,HX2.out,_,rfl⟩
end Go.Proofs.YtjodlmanheeajaaGreatDoor
