import Derived.Deep.RegionHeld3
import Derived.Test.YtffegeaflohfhaaGreatDoorS33
import Derived.Test.YtffegeaflohfhaaGreatDoorS34
import Derived.Test.YtffegeaflohfhaaGreatDoorS02
set_option linter.unusedVariables false
set_option linter.unusedSimpArgs false
set_option maxRecDepth 100000
set_option maxHeartbeats 8000000
namespace Go.Proofs.YtffegeaflohfhaaGreatDoor
open Go.RowKit
theorem vs_dg_ge {y n:Nat} (h:wl y <= n):vs (dg y) n = y:=vs_prefix (fun _ _=>rfl) (lL (lt_wl y) (pow_mono h))
theorem add_step {f fx fy:Nat -> Nat} {k s cc kk:Nat} (hv:vs f k + cc * 4294967296 ^ k = vs fx k + vs fy k) (hs:s + kk * 4294967296 = fx k + fy k + cc) :
  vs (upd f k s) (k + 1) + kk * 4294967296 ^ (k + 1) = vs fx (k + 1) + vs fy (k + 1):=by
 have h:=carry_step hv hs
 rw [vs_upd_succ,vs_succ,vs_succ,Nat.pow_succ]
 omega
theorem add_words (a b c:Nat) (ha:a < 4294967296) (hb:b < 4294967296) (hc:c <= 1):∃ s k:Nat,IntKind.u64.wrap (a:Int) = (a:Int) /\ IntKind.u64.wrap (b:Int) = (b:Int) /\ IntKind.u64.wrap ((a:Int) + (c:Int)) = (a:Int) + (c:Int) /\ IntKind.u64.wrap ((a:Int) + (c:Int) + (b:Int)) = (a:Int) + (c:Int) + (b:Int) /\
  ((a:Int) + (c:Int) + (b:Int)) % 4294967296 = (s:Int) /\ ((a:Int) + (c:Int) + (b:Int)) / 4294967296 = (k:Int) /\ s + k * 4294967296 = a + b + c /\ s < 4294967296 /\ k <= 1 :=
 ⟨(a + c + b) % 4294967296,(a + c + b) / 4294967296,by rw [IntKind.wrap_u64]; omega,by rw [IntKind.wrap_u64]; omega,by rw [IntKind.wrap_u64]; omega,by rw [IntKind.wrap_u64]; omega,oM,oM,oM,oM,oM⟩
theorem add_word0 (a c:Nat) (ha:a < 4294967296) (hc:c <= 1):∃ s k:Nat,IntKind.u64.wrap (a:Int) = (a:Int) /\ IntKind.u64.wrap ((a:Int) + (c:Int)) = (a:Int) + (c:Int) /\
  ((a:Int) + (c:Int)) % 4294967296 = (s:Int) /\ ((a:Int) + (c:Int)) / 4294967296 = (k:Int) /\ s + k * 4294967296 = a + 0 + c /\ s < 4294967296 /\ k <= 1 :=
 ⟨(a + c) % 4294967296,(a + c) / 4294967296,by rw [IntKind.wrap_u64]; omega,by rw [IntKind.wrap_u64]; omega,oM,oM,oM,oM,oM⟩
theorem subr_step {f fx fy:Nat -> Nat} {k s bb b':Nat} (hv:vs f k + vs fy k = vs fx k + bb * 4294967296 ^ k) (hs:s + fy k + bb = fx k + b' * 4294967296) :
  vs (upd f k s) (k + 1) + vs fy (k + 1) = vs fx (k + 1) + b' * 4294967296 ^ (k + 1):=by
 rw [vs_upd_succ,vs_succ,vs_succ,Nat.pow_succ]
 generalize 4294967296 ^ k = P at *
 have h:(s + fy k + bb) * P = (fx k + b' * 4294967296) * P:=by rw [hs]
 have e1:(s + fy k + bb) * P = s * P + fy k * P + bb * P:=by grind
 have e2:(fx k + b' * 4294967296) * P = fx k * P + b' * (P * 4294967296):=by grind
 omega
theorem sub_words (u p b:Nat) (hu:u < 4294967296) (hp:p < 4294967296) (hb:b <= 1):∃ X d b':Nat,IntKind.u64.wrap (u:Int) = (u:Int) /\ IntKind.u64.wrap (p:Int) = (p:Int) /\ IntKind.u64.wrap (IntKind.u64.wrap ((u:Int) - (b:Int)) - (p:Int)) = (X:Int) /\ (X:Int) % 4294967296 = (d:Int) /\ (X:Int) / 9223372036854775808 = (b':Int) /\
  d + p + b = u + b' * 4294967296 /\ d < 4294967296 /\ b' <= 1 /\ X < 18446744073709551616:=by
 by_cases h:p + b <= u
 ·exact ⟨u - p - b,u - p - b,0,by rw [IntKind.wrap_u64]; omega,by rw [IntKind.wrap_u64]; omega,by rw [IntKind.wrap_u64,IntKind.wrap_u64]; omega,oM,oM,oM,oM,oM,oM⟩
 ·exact ⟨18446744073709551616 + u - p - b,4294967296 + u - p - b,1,by rw [IntKind.wrap_u64]; omega,by rw [IntKind.wrap_u64]; omega,by rw [IntKind.wrap_u64,IntKind.wrap_u64]; omega,oM,oM,oM,oM,oM,oM⟩
theorem sub_word0 (u b:Nat) (hu:u < 4294967296) (hb:b <= 1):∃ X d b':Nat,IntKind.u64.wrap (u:Int) = (u:Int) /\ IntKind.u64.wrap ((u:Int) - (b:Int)) = (X:Int) /\ (X:Int) % 4294967296 = (d:Int) /\ (X:Int) / 9223372036854775808 = (b':Int) /\
  d + 0 + b = u + b' * 4294967296 /\ d < 4294967296 /\ b' <= 1 /\ X < 18446744073709551616:=by
 by_cases h:b <= u
 ·exact ⟨u - b,u - b,0,by rw [IntKind.wrap_u64]; omega,by rw [IntKind.wrap_u64]; omega,oM,oM,oM,oM,oM,oM⟩
 ·exact ⟨18446744073709551616 + u - b,4294967296 + u - b,1,by rw [IntKind.wrap_u64]; omega,by rw [IntKind.wrap_u64]; omega,oM,oM,oM,oM,oM,oM⟩
theorem rNatAdd_ge (v u:Value) (x y:Nat) (w:World) (hv:IsNat w v x) (hu:IsNat w u y) (hle:wl y <= wl x) (hn:wl x < 1099511627776) :
  Calls Tryz.prog 145 #[v,u] w (RetNat w (x + y)):=by
 have hfx:=Wd_dg x (wl x)
 have hfy:=fun j=>dg_lt y j
 have HVX:=hid (vs_dg_wl x)
 have HVY:=hid (vs_dg_ge (y:=y) (n:=wl x) oM)
 have HGE:=hid (fun j (h:wl y <= j)=>dg_ge h)
 obtain ⟨A,c,rfl,hc,hw⟩:=hv
 obtain ⟨A',c',rfl,hc',hw'⟩:=hu
 have HX:=hid hw
 have HY:=hid hw'
 clear hw hw'
 generalize wl x = n at *
 generalize wl y = m at *
 have hmk:(Instr.makeSlice 30 (.int .i64 ((n:Int) + 1)) (.int .i64 ((n:Int) + 1))).run Tryz.prog w = .ok (.slice (some ⟨w.heap.size,0,none⟩) (n + 1) (n + 1)) (w.alloc (zrow (n + 1))):=make_words (n + 1) oM w
 have hrow0:=Row.zrow w (n + 1)
 obtain ⟨W1,hW1⟩:∃ W1,W1 = w.alloc (zrow (n + 1)):=⟨_,rfl⟩
 rw [<- hW1] at hmk hrow0
 have hB1:Below w.heap.size w W1:=by rw [hW1]; exact below_alloc _ _
 clear hW1
 have HRW:=hid hrow0; clear hrow0
 have hlen:decide ((n:Int) < (m:Int)) = false:=sO
 go_enter Tryz.func145,Tryz.ntmps145
 go_wp2
 go_loopw [6,7] (fun cv iv wr=>∃ k cc:Nat,k <= n /\ iv = .int .i64 (k:Int) /\ cv = .int .u64 (cc:Int) /\ cc <= 1 /\ ∃ f,Row wr w.heap.size (n + 1) f /\ Wd f (n + 1) /\ vs f k + cc * 4294967296 ^ k = vs (dg x) k + vs (dg y) k /\ Below w.heap.size w wr) (fun _ iv _=>n - (intOf iv).toNat)
 case atStart=>exact ⟨0,0,oM,rfl,rfl,oM,_,HRW.out,Wd_zero _,by simp [vs_zero],hB1⟩
 case round =>
  obtain ⟨k,cc,hk,rfl,rfl,hcc,f,hrow,hfw,hv,hg⟩:=hrel
  have HV:=hid hv; clear hv
  have HG:=hid hg; clear hg
  have HRO:=hid hrow; clear hrow
  by_cases hlt:k < n
  ·obtain ⟨b,o2,rfl,hb,hc1⟩:=HX.out oM
   have hcell:=(HG.out.cell (p:=⟨b,o2 + k,none⟩) hb).trans (hc1 k hlt)
   clear hc1
   have hz:=HRO.out.cell (j:=k) oM
   have hzf:=HRO.out.frozen k
   have hw1:=hfx k hlt
   by_cases hlt2:k < m
   ·obtain ⟨b',o3,rfl,hb',hc2⟩:=HY.out oM
    have hcell2:=(HG.out.cell (p:=⟨b',o3 + k,none⟩) hb').trans (hc2 k hlt2)
    clear hc2
    obtain ⟨s,kk,e1,e2,e3,e4,e5,e6,e7,e8,e9⟩:=add_words (dg x k) (dg y k) cc hw1 (hfy k) hcc
    have HS:=hid (add_step HV.out e7)
    clear e7
    go_wp2
    go_roundw
    case rel=>exact ⟨k + 1,kk,oM,by go_num,by go_num,e9,_,HRO.out.set_ oM s,hfw.upd _ e8,HS.out,HG.out.setCell lR _⟩
    case measure=>exact mS
   ·have h0:=HGE.out k oM
    obtain ⟨s,kk,e1,e3,e5,e6,e7,e8,e9⟩:=add_word0 (dg x k) cc hw1 hcc
    have HS:=hid (add_step (fy:=dg y) HV.out (by rw [h0]; exact e7))
    clear e7 h0
    go_wp2
    go_roundw
    case rel=>exact ⟨k + 1,kk,oM,by go_num,by go_num,e9,_,HRO.out.set_ oM s,hfw.upd _ e8,HS.out,HG.out.setCell lR _⟩
    case measure=>exact mS
  ·obtain rfl:k = n:=oM
   have hz:=HRO.out.cell (j:=k) oM
   have hzf:=HRO.out.frozen k
   have R1:=HRO.out.set_ (i:=k) oM cc
   have hf1:=hfw.upd k (x:=cc) oM
   have hv:=HV.out
   rw [HVX.out,HVY.out,<- vs_upd_succ] at hv
   have HV1:=hid hv
   have HR1:=hid R1
   have hcm:(cc:Int) % 4294967296 = (cc:Int):=oM
   clear hv R1
   go_wp2_with fail
   refine (rtrim_nat _ _ _ (upd f k cc) _ HR1.out.wn0 hf1 oM oM).mono ?_
   rintro e w' ⟨r,rfl,hr,rfl⟩
   go_wp2
   go_ret
   exact ⟨r,rfl,by rw [<- HV1.out]; exact hr,HG.out.setCell lR _⟩
theorem rNatAdd_lt (v u:Value) (x y:Nat) (w:World) (hv:IsNat w v x) (hu:IsNat w u y) (hle:wl y < wl x) (hn:wl x < 1099511627776) :
  Calls Tryz.prog 145 #[u,v] w (RetNat w (x + y)):=by
 have hfx:=Wd_dg x (wl x)
 have hfy:=fun j=>dg_lt y j
 have HVX:=hid (vs_dg_wl x)
 have HVY:=hid (vs_dg_ge (y:=y) (n:=wl x) oM)
 have HGE:=hid (fun j (h:wl y <= j)=>dg_ge h)
 obtain ⟨A,c,rfl,hc,hw⟩:=hv
 obtain ⟨A',c',rfl,hc',hw'⟩:=hu
 have HX:=hid hw
 have HY:=hid hw'
 clear hw hw'
 generalize wl x = n at *
 generalize wl y = m at *
 have hmk:(Instr.makeSlice 30 (.int .i64 ((n:Int) + 1)) (.int .i64 ((n:Int) + 1))).run Tryz.prog w = .ok (.slice (some ⟨w.heap.size,0,none⟩) (n + 1) (n + 1)) (w.alloc (zrow (n + 1))):=make_words (n + 1) oM w
 have hrow0:=Row.zrow w (n + 1)
 obtain ⟨W1,hW1⟩:∃ W1,W1 = w.alloc (zrow (n + 1)):=⟨_,rfl⟩
 rw [<- hW1] at hmk hrow0
 have hB1:Below w.heap.size w W1:=by rw [hW1]; exact below_alloc _ _
 clear hW1
 have HRW:=hid hrow0; clear hrow0
 have hlen:decide ((m:Int) < (n:Int)) = true:=sO
 go_enter Tryz.func145,Tryz.ntmps145
 go_wp2
 go_loopw [6,7] (fun cv iv wr=>∃ k cc:Nat,k <= n /\ iv = .int .i64 (k:Int) /\ cv = .int .u64 (cc:Int) /\ cc <= 1 /\ ∃ f,Row wr w.heap.size (n + 1) f /\ Wd f (n + 1) /\ vs f k + cc * 4294967296 ^ k = vs (dg x) k + vs (dg y) k /\ Below w.heap.size w wr) (fun _ iv _=>n - (intOf iv).toNat)
 case atStart=>exact ⟨0,0,oM,rfl,rfl,oM,_,HRW.out,Wd_zero _,by simp [vs_zero],hB1⟩
 case round =>
  obtain ⟨k,cc,hk,rfl,rfl,hcc,f,hrow,hfw,hv,hg⟩:=hrel
  have HV:=hid hv; clear hv
  have HG:=hid hg; clear hg
  have HRO:=hid hrow; clear hrow
  by_cases hlt:k < n
  ·obtain ⟨b,o2,rfl,hb,hc1⟩:=HX.out oM
   have hcell:=(HG.out.cell (p:=⟨b,o2 + k,none⟩) hb).trans (hc1 k hlt)
   clear hc1
   have hz:=HRO.out.cell (j:=k) oM
   have hzf:=HRO.out.frozen k
   have hw1:=hfx k hlt
   by_cases hlt2:k < m
   ·obtain ⟨b',o3,rfl,hb',hc2⟩:=HY.out oM
    have hcell2:=(HG.out.cell (p:=⟨b',o3 + k,none⟩) hb').trans (hc2 k hlt2)
    clear hc2
    obtain ⟨s,kk,e1,e2,e3,e4,e5,e6,e7,e8,e9⟩:=add_words (dg x k) (dg y k) cc hw1 (hfy k) hcc
    have HS:=hid (add_step HV.out e7)
    clear e7
    go_wp2
    go_roundw
    case rel=>exact ⟨k + 1,kk,oM,by go_num,by go_num,e9,_,HRO.out.set_ oM s,hfw.upd _ e8,HS.out,HG.out.setCell lR _⟩
    case measure=>exact mS
   ·have h0:=HGE.out k oM
    obtain ⟨s,kk,e1,e3,e5,e6,e7,e8,e9⟩:=add_word0 (dg x k) cc hw1 hcc
    have HS:=hid (add_step (fy:=dg y) HV.out (by rw [h0]; exact e7))
    clear e7 h0
    go_wp2
    go_roundw
    case rel=>exact ⟨k + 1,kk,oM,by go_num,by go_num,e9,_,HRO.out.set_ oM s,hfw.upd _ e8,HS.out,HG.out.setCell lR _⟩
    case measure=>exact mS
  ·obtain rfl:k = n:=oM
   have hz:=HRO.out.cell (j:=k) oM
   have hzf:=HRO.out.frozen k
   have R1:=HRO.out.set_ (i:=k) oM cc
   have hf1:=hfw.upd k (x:=cc) oM
   have hv:=HV.out
   rw [HVX.out,HVY.out,<- vs_upd_succ] at hv
   have HV1:=hid hv
   have HR1:=hid R1
   have hcm:(cc:Int) % 4294967296 = (cc:Int):=oM
   clear hv R1
   go_wp2_with fail
   refine (rtrim_nat _ _ _ (upd f k cc) _ HR1.out.wn0 hf1 oM oM).mono ?_
   rintro e w' ⟨r,rfl,hr,rfl⟩
   go_wp2
   go_ret
   exact ⟨r,rfl,by rw [<- HV1.out]; exact hr,HG.out.setCell lR _⟩
theorem rNatAdd_any (v u:Value) (x y:Nat) (w:World) (hv:IsNat w v x) (hu:IsNat w u y) (hn:wl x < 1099511627776) (hm:wl y < 1099511627776) :
  Calls Tryz.prog 145 #[v,u] w (RetNat w (x + y)):=by
 by_cases h:wl y <= wl x
 ·exact rNatAdd_ge v u x y w hv hu h hn
 ·rw [Nat.add_comm]
  exact rNatAdd_lt u v y x w hu hv oM hm
theorem rNatSub_any (v u:Value) (x y:Nat) (w:World) (hv:IsNat w v x) (hu:IsNat w u y) (hle:y <= x) (hn:wl x < 1099511627776) :
  Calls Tryz.prog 147 #[v,u] w (RetNat w (x - y)):=by
 have hml:=wl_mono hle
 have hfx:=Wd_dg x (wl x)
 have hfy:=fun j=>dg_lt y j
 have HVX:=hid (vs_dg_wl x)
 have HVY:=hid (vs_dg_ge (y:=y) (n:=wl x) hml)
 have HGE:=hid (fun j (h:wl y <= j)=>dg_ge h)
 have HLT:=hid (lt_wl x)
 obtain ⟨A,c,rfl,hc,hw⟩:=hv
 obtain ⟨A',c',rfl,hc',hw'⟩:=hu
 have HX:=hid hw
 have HY:=hid hw'
 clear hw hw'
 generalize wl x = n at *
 generalize wl y = m at *
 have hmk:=make_words n oM w
 have hrow0:=Row.zrow w n
 obtain ⟨W1,hW1⟩:∃ W1,W1 = w.alloc (zrow n):=⟨_,rfl⟩
 rw [<- hW1] at hmk hrow0
 have hB1:Below w.heap.size w W1:=by rw [hW1]; exact below_alloc _ _
 clear hW1
 have HRW:=hid hrow0; clear hrow0
 have HLE:=hid hle; clear hle
 go_enter Tryz.func147,Tryz.ntmps147
 go_wp2
 go_loopw [6,7] (fun cv iv wr=>∃ k bb:Nat,k <= n /\ iv = .int .i64 (k:Int) /\ cv = .int .u64 (bb:Int) /\ bb <= 1 /\ ∃ f,Row wr w.heap.size n f /\ Wd f n /\ vs f k + vs (dg y) k = vs (dg x) k + bb * 4294967296 ^ k /\ Below w.heap.size w wr) (fun _ iv _=>n - (intOf iv).toNat)
 case atStart=>exact ⟨0,0,oM,rfl,rfl,oM,_,HRW.out,Wd_zero _,by simp [vs_zero],hB1⟩
 case round =>
  obtain ⟨k,bb,hk,rfl,rfl,hbb,f,hrow,hfw,hv,hg⟩:=hrel
  have HV:=hid hv; clear hv
  have HG:=hid hg; clear hg
  have HRO:=hid hrow; clear hrow
  by_cases hlt:k < n
  ·obtain ⟨b,o2,rfl,hb,hc1⟩:=HX.out oM
   have hcell:=(HG.out.cell (p:=⟨b,o2 + k,none⟩) hb).trans (hc1 k hlt)
   clear hc1
   have hz:=HRO.out.cell (j:=k) oM
   have hzf:=HRO.out.frozen k
   have hw1:=hfx k hlt
   by_cases hlt2:k < m
   ·obtain ⟨b',o3,rfl,hb',hc2⟩:=HY.out oM
    have hcell2:=(HG.out.cell (p:=⟨b',o3 + k,none⟩) hb').trans (hc2 k hlt2)
    clear hc2
    obtain ⟨X,s,b2,e1,e2,e3,e5,e6,e7,e8,e9,e10⟩:=sub_words (dg x k) (dg y k) bb hw1 (hfy k) hbb
    have HS:=hid (subr_step HV.out e7)
    clear e7
    go_wp2
    go_roundw
    case rel=>exact ⟨k + 1,b2,oM,by go_num,by go_num,e9,_,HRO.out.set_ oM s,hfw.upd _ e8,HS.out,HG.out.setCell lR _⟩
    case measure=>exact mS
   ·have h0:=HGE.out k oM
    obtain ⟨X,s,b2,e1,e3,e5,e6,e7,e8,e9,e10⟩:=sub_word0 (dg x k) bb hw1 hbb
    have HS:=hid (subr_step (fy:=dg y) HV.out (by rw [h0]; exact e7))
    clear e7 h0
    go_wp2
    go_roundw
    case rel=>exact ⟨k + 1,b2,oM,by go_num,by go_num,e9,_,HRO.out.set_ oM s,hfw.upd _ e8,HS.out,HG.out.setCell lR _⟩
    case measure=>exact mS
  ·obtain rfl:k = n:=oM
   have hv:=HV.out
   rw [HVX.out,HVY.out] at hv
   have hvl:=vs_lt hfw
   have hval:vs f k = x - y:=by
    have h1:=HLE.out
    have h2:=HLT.out
    rcases (show bb = 0 ∨ bb = 1 by omega) with h | h
    ·subst h; omega
    ·subst h
     generalize 4294967296 ^ k = P at *
     omega
   have HV1:=hid hval
   clear hv hvl hval
   go_wp2_with fail
   refine (rtrim_nat _ _ _ f _ HRO.out.wn0 hfw oM oM).mono ?_
   rintro e w' ⟨r,rfl,hr,rfl⟩
   go_wp2
   go_ret
   exact ⟨r,rfl,by rw [<- HV1.out]; exact hr,HG.out⟩
theorem mulr_step {f f' fy:Nat -> Nat} {i j s kk cc xi:Nat} (hv:vs f' (i + j) + cc * 4294967296 ^ (i + j) = vs f (i + j) + xi * vs fy j * 4294967296 ^ i) (hs:s + kk * 4294967296 = xi * fy j + f' (i + j) + cc) (hk:f' (i + j) = f (i + j)) :
  vs (upd f' (i + j) s) (i + j + 1) + kk * 4294967296 ^ (i + j + 1) = vs f (i + j + 1) + xi * vs fy (j + 1) * 4294967296 ^ i:=by
 rw [vs_upd_succ,vs_succ f,vs_succ fy,Nat.pow_succ]
 rw [hk] at hs
 have e:4294967296 ^ (i + j) = 4294967296 ^ i * 4294967296 ^ j:=Nat.pow_add _ _ _
 generalize 4294967296 ^ (i + j) = P at *
 generalize 4294967296 ^ i = P1 at *
 generalize 4294967296 ^ j = P2 at *
 have h:(s + kk * 4294967296) * P = (xi * fy j + f (i + j) + cc) * P:=by rw [hs]
 have e1:(s + kk * 4294967296) * P = s * P + kk * (P * 4294967296):=by grind
 have e2:(xi * fy j + f (i + j) + cc) * P = xi * fy j * P + f (i + j) * P + cc * P:=by grind
 have e3:xi * (vs fy j + fy j * P2) * P1 = xi * vs fy j * P1 + xi * fy j * P:=by rw [e]; grind
 omega
theorem mulr_end {f f' fx:Nat -> Nat} {i m cc y:Nat} (hv:vs f' (i + m) + cc * 4294967296 ^ (i + m) = vs f (i + m) + fx i * y * 4294967296 ^ i) (hf:vs f (i + m) = vs fx i * y) :
  vs (upd f' (i + m) cc) (i + 1 + m) = vs fx (i + 1) * y:=by
 rw [show i + 1 + m = i + m + 1 by omega,vs_upd_succ,vs_succ,hv,hf]
 generalize 4294967296 ^ i = P
 grind
theorem mul_words (a b o c:Nat) (ha:a < 4294967296) (hb:b < 4294967296) (ho:o < 4294967296) (hc:c < 4294967296):∃ p s k:Nat,(a:Int) * (b:Int) = (p:Int) /\ p = a * b /\ IntKind.u64.wrap (a:Int) = (a:Int) /\ IntKind.u64.wrap (b:Int) = (b:Int) /\ IntKind.u64.wrap (o:Int) = (o:Int) /\ IntKind.u64.wrap (p:Int) = (p:Int) /\
  IntKind.u64.wrap ((p:Int) + (o:Int)) = (p:Int) + (o:Int) /\ IntKind.u64.wrap ((p:Int) + (o:Int) + (c:Int)) = (p:Int) + (o:Int) + (c:Int) /\ ((p:Int) + (o:Int) + (c:Int)) % 4294967296 = (s:Int) /\ ((p:Int) + (o:Int) + (c:Int)) / 4294967296 = (k:Int) /\ s + k * 4294967296 = p + o + c /\ s < 4294967296 /\ k < 4294967296 /\ p <= 18446744065119617025:=by
 obtain ⟨p,h1,h2,h3⟩:=mul_nat a b ha hb
 exact ⟨p,(p + o + c) % 4294967296,(p + o + c) / 4294967296,h1,h2,by rw [IntKind.wrap_u64]; omega,by rw [IntKind.wrap_u64]; omega,by rw [IntKind.wrap_u64]; omega,by rw [IntKind.wrap_u64]; omega,by rw [IntKind.wrap_u64]; omega,by rw [IntKind.wrap_u64]; omega,oM,oM,oM,oM,oM,h3⟩
theorem rNatMul_any (v u:Value) (x y:Nat) (w:World) (hv:IsNat w v x) (hu:IsNat w u y) (hn:wl x < 549755813888) (hm:wl y < 549755813888) :
  Calls Tryz.prog 110 #[v,u] w (RetNat w (x * y)):=by
 have hfx:=fun j=>dg_lt x j
 have hfy:=fun j=>dg_lt y j
 have HVX:=hid (vs_dg_wl x)
 have HVY:=hid (vs_dg_wl y)
 obtain ⟨A,c,rfl,hc,hw⟩:=hv
 obtain ⟨A',c',rfl,hc',hw'⟩:=hu
 have HX:=hid hw
 have HY:=hid hw'
 clear hw hw'
 generalize wl x = n at *
 generalize wl y = m at *
 have hmk:(Instr.makeSlice 30 (.int .i64 ((n:Int) + (m:Int))) (.int .i64 ((n:Int) + (m:Int)))).run Tryz.prog w = .ok (.slice (some ⟨w.heap.size,0,none⟩) (n + m) (n + m)) (w.alloc (zrow (n + m))):=make_words (n + m) oM w
 have hrow0:=Row.zrow w (n + m)
 obtain ⟨W1,hW1⟩:∃ W1,W1 = w.alloc (zrow (n + m)):=⟨_,rfl⟩
 rw [<- hW1] at hmk hrow0
 have hB1:Below w.heap.size w W1:=by rw [hW1]; exact below_alloc _ _
 clear hW1
 have HRW:=hid hrow0; clear hrow0
 go_enter Tryz.func110,Tryz.ntmps110
 go_wp2
 go_loopw [6] (fun iv wr=>∃ i:Nat,i <= n /\ iv = .int .i64 (i:Int) /\ ∃ f,Row wr w.heap.size (n + m) f /\ Wd f (n + m) /\ vs f (i + m) = vs (dg x) i * y /\ (∀ j,i + m <= j -> j < n + m -> f j = 0) /\ Below w.heap.size w wr) (fun iv _=>n - (intOf iv).toNat)
 case atStart=>exact ⟨0,oM,rfl,_,HRW.out,Wd_zero _,by rw [vs_zero,vs_zeros (fun _ _=>rfl)]; simp,fun _ _ _=>rfl,hB1⟩
 case round =>
  obtain ⟨i,hi,rfl,f,hrow,hfw,hv,hz,hg⟩:=hrel
  have HV:=hid hv; clear hv
  have HG:=hid hg; clear hg
  have HRO:=hid hrow; clear hrow
  have HZ:=hid hz; clear hz
  by_cases hlt:i < n
  ·go_wp2_with fail
   go_loopw [7,8] (fun cv jv wx=>∃ j cc:Nat,j <= m /\ jv = .int .i64 (j:Int) /\ cv = .int .u64 (cc:Int) /\ cc < 4294967296 /\ ∃ f',Row wx w.heap.size (n + m) f' /\ Wd f' (n + m) /\ (∀ t,i + j <= t -> t < n + m -> f' t = f t) /\ vs f' (i + j) + cc * 4294967296 ^ (i + j) = vs f (i + j) + dg x i * vs (dg y) j * 4294967296 ^ i /\ Below w.heap.size w wx) (fun _ jv _=>m - (intOf jv).toNat)
   case atStart=>exact ⟨0,0,oM,rfl,rfl,oM,f,HRO.out,hfw,fun _ _ _=>rfl,by simp [vs_zero],HG.out⟩
   case round =>
    obtain ⟨j,cc,hj,rfl,rfl,hcc,f',hrow',hfw',hk',hv',hg'⟩:=hrel
    have HV':=hid hv'; clear hv'
    have HG':=hid hg'; clear hg'
    have HRO':=hid hrow'; clear hrow'
    have HK':=hid hk'; clear hk'
    by_cases hlt2:j < m
    ·obtain ⟨b,o2,rfl,hb,hc1⟩:=HX.out oM
     have hcell:=(HG'.out.cell (p:=⟨b,o2 + i,none⟩) hb).trans (hc1 i hlt)
     clear hc1
     obtain ⟨b',o3,rfl,hb',hc2⟩:=HY.out oM
     have hcell2:=(HG'.out.cell (p:=⟨b',o3 + j,none⟩) hb').trans (hc2 j hlt2)
     clear hc2
     have hz1:=HRO'.out.cell (j:=i + j) oM
     have hzf1:=HRO'.out.frozen (i + j)
     obtain ⟨p,s,kk,e1,e2,e3,e4,e5,e6,e7,e8,e9,e10,e11,e12,e13,e14⟩:=mul_words (dg x i) (dg y j) (f' (i + j)) cc (hfx i) (hfy j) (hfw' _ oM) hcc
     have HS:=hid (mulr_step (s:=s) (kk:=kk) HV'.out (by rw [<- e2]; exact e11) (HK'.out _ lR oM))
     clear e2 e11
     go_wp2
     go_quiet (fail)
     have HR7:=hid (show Row (wr.drewN nq) w.heap.size (n + m) f' from HRO'.out)
     have hz7:=HR7.out.cell (j:=i + j) oM
     have hzf7:=HR7.out.frozen (i + j)
     go_wp2
     go_roundw
     case rel=>exact ⟨j + 1,kk,oM,by go_num,by go_num,e13,_,HR7.out.set_ oM s,hfw'.upd _ e12,fun t h1 h2=>by rw [upd_other _ _ oM]; exact HK'.out t oM h2,HS.out,by have hg':=HG'.out; exact bel⟩
     case measure=>exact mS
    ·obtain rfl:j = m:=oM
     have hz1:=HRO'.out.cell (j:=i + j) oM
     have hzf1:=HRO'.out.frozen (i + j)
     have hv:=HV'.out
     rw [HVY.out] at hv
     have HE:=hid (mulr_end hv HV.out)
     have hcm:(cc:Int) % 4294967296 = (cc:Int):=oM
     clear hv
     go_wp2
     go_roundw
     case rel=>exact ⟨i + 1,oM,by go_num,_,HRO'.out.set_ oM cc,hfw'.upd _ hcc,HE.out,fun t h1 h2=>by rw [upd_other _ _ oM,HK'.out t oM h2]; exact HZ.out t oM h2,by have hg':=HG'.out; exact bel⟩
     case measure=>exact mS
  ·obtain rfl:i = n:=oM
   have hv:=HV.out
   rw [HVX.out] at hv
   have HV1:=hid hv
   clear hv
   go_wp2_with fail
   refine (rtrim_nat _ _ _ f _ HRO.out.wn0 hfw oM oM).mono ?_
   rintro e w' ⟨r,rfl,hr,rfl⟩
   go_wp2
   go_ret
   exact ⟨r,rfl,by rw [<- HV1.out]; exact hr,HG.out⟩
theorem rIntAdd_nna (v u:Value) (a b:Int) (w:World) (h:IsRI w v a) (h':IsRI w u b) (sa:wl a.natAbs < 549755813888) (sb:wl b.natAbs < 549755813888) (ha:a < 0) (hb:b < 0) :
  Calls Tryz.prog 109 #[v,u] w (RetRI w (a + b)):=by
 obtain ⟨A1,n1,c1,rfl,hn1,hs1⟩:=h.parts
 obtain ⟨A2,n2,c2,rfl,hn2,hs2⟩:=h'.parts
 rw [show decide (a < 0) = true by simp; omega,show decide (b < 0) = true by simp; omega]
 have HA:=hid (fun W (hb:Below w.heap.size w W)=>rNatAdd_any _ _ _ _ W (hs1.below hb) (hs2.below hb) oM oM)
 have HS:=hid (fun v W (hv:IsNat W v (a.natAbs + b.natAbs))=>rsigned_any true v _ (a + b) W hv oM (by rw [Bool.eq_iff_iff]; simp; omega))
 clear h h' hs1 hs2 hn1 hn2 sa sb ha hb
 have hne1:¬ (w.heap.size + 1 + 1 = w.heap.size):=oM
 have hne2:¬ (w.heap.size = w.heap.size + 1 + 1):=oM
 go_enter Tryz.func109,Tryz.ntmps109
 go_wp2_with fail
 go_region_held3 (fun w'=>w'.cell? ⟨w.heap.size,0,none⟩ = some (.bool true) /\ w'.cell? ⟨w.heap.size,1,none⟩ = some (.slice A1 n1 c1) /\ w'.cell? ⟨w.heap.size + 1,0,none⟩ = some (.bool true) /\ w'.cell? ⟨w.heap.size + 1,1,none⟩ = some (.slice A2 n2 c2)) (go_keep) (first | (go_at_call 145; ((with_reducible refine (HA.out _ ?_).mono ?_); (exact bel); (rintro e W6 ⟨r6,rfl,hr6,hb6⟩; obtain ⟨A6,n6,c6,rfl,hn6⟩:=hr6.ex; clear hn6; obtain ⟨hc6,hf6,hz6⟩:=bcells hb6 (w.heap.size + 3) (by simp <;> omega)))) | (go_at_call 144; ((with_reducible refine (HS.out _ _ (hr6.below bel)).mono ?_); (rintro e W7 ⟨r7,rfl,hr7,hb7⟩; obtain ⟨A7,n7,c7,rfl,hn7,-⟩:=hr7.parts; clear hn7; generalize hq7:decide (a + b < 0) = q7 at *; clear hq7; have kb7:Below W6.heap.size W6 W7:=bel; clear hb7; obtain ⟨hc7,hf7,hz7⟩:=bcells kb7 (w.heap.size + 3) oM))))
 go_wp2
 have B6:Below w.heap.size w W6:=bel
 have B7:=bT B6 kb7
 have IB:IntBox W7 (w.heap.size + 2):=IntBox.of hc7 oM (IntBox.of hc6 (g:=w.heap.size + 2) oM (IntBox.mk' (A:=none) (n:=0) (c:=0) (p:=false) sG sG))
 refine bodyPost_ret (v:=.agg #[.bool q7,.slice A7 n7 c7]) (by simp [results,Tryz.results109]; exact run_loadRI IB _ _) rfl ?_
 exact RetRI.box B7 oM IB hr7 _ _
theorem rIntAdd_ppa (v u:Value) (a b:Int) (w:World) (h:IsRI w v a) (h':IsRI w u b) (sa:wl a.natAbs < 549755813888) (sb:wl b.natAbs < 549755813888) (ha:0 <= a) (hb:0 <= b) :
  Calls Tryz.prog 109 #[v,u] w (RetRI w (a + b)):=by
 obtain ⟨A1,n1,c1,rfl,hn1,hs1⟩:=h.parts
 obtain ⟨A2,n2,c2,rfl,hn2,hs2⟩:=h'.parts
 rw [show decide (a < 0) = false by simp; omega,show decide (b < 0) = false by simp; omega]
 have HA:=hid (fun W (hb:Below w.heap.size w W)=>rNatAdd_any _ _ _ _ W (hs1.below hb) (hs2.below hb) oM oM)
 have HS:=hid (fun v W (hv:IsNat W v (a.natAbs + b.natAbs))=>rsigned_any false v _ (a + b) W hv oM (by rw [Bool.eq_iff_iff]; simp; omega))
 clear h h' hs1 hs2 hn1 hn2 sa sb ha hb
 have hne1:¬ (w.heap.size + 1 + 1 = w.heap.size):=oM
 have hne2:¬ (w.heap.size = w.heap.size + 1 + 1):=oM
 go_enter Tryz.func109,Tryz.ntmps109
 go_wp2_with fail
 go_region_held3 (fun w'=>w'.cell? ⟨w.heap.size,0,none⟩ = some (.bool false) /\ w'.cell? ⟨w.heap.size,1,none⟩ = some (.slice A1 n1 c1) /\ w'.cell? ⟨w.heap.size + 1,0,none⟩ = some (.bool false) /\ w'.cell? ⟨w.heap.size + 1,1,none⟩ = some (.slice A2 n2 c2)) (go_keep) (first | (go_at_call 145; ((with_reducible refine (HA.out _ ?_).mono ?_); (exact bel); (rintro e W6 ⟨r6,rfl,hr6,hb6⟩; obtain ⟨A6,n6,c6,rfl,hn6⟩:=hr6.ex; clear hn6; obtain ⟨hc6,hf6,hz6⟩:=bcells hb6 (w.heap.size + 3) (by simp <;> omega)))) | (go_at_call 144; ((with_reducible refine (HS.out _ _ (hr6.below bel)).mono ?_); (rintro e W7 ⟨r7,rfl,hr7,hb7⟩; obtain ⟨A7,n7,c7,rfl,hn7,-⟩:=hr7.parts; clear hn7; generalize hq7:decide (a + b < 0) = q7 at *; clear hq7; have kb7:Below W6.heap.size W6 W7:=bel; clear hb7; obtain ⟨hc7,hf7,hz7⟩:=bcells kb7 (w.heap.size + 3) oM))))
 go_wp2
 have B6:Below w.heap.size w W6:=bel
 have B7:=bT B6 kb7
 have IB:IntBox W7 (w.heap.size + 2):=IntBox.of hc7 oM (IntBox.of hc6 (g:=w.heap.size + 2) oM (IntBox.mk' (A:=none) (n:=0) (c:=0) (p:=false) sG sG))
 refine bodyPost_ret (v:=.agg #[.bool q7,.slice A7 n7 c7]) (by simp [results,Tryz.results109]; exact run_loadRI IB _ _) rfl ?_
 exact RetRI.box B7 oM IB hr7 _ _
theorem rIntAdd_npg (v u:Value) (a b:Int) (w:World) (h:IsRI w v a) (h':IsRI w u b) (sa:wl a.natAbs < 549755813888) (sb:wl b.natAbs < 549755813888) (ha:a < 0) (hb:0 <= b) (hg:b.natAbs <= a.natAbs) :
  Calls Tryz.prog 109 #[v,u] w (RetRI w (a + b)):=by
 obtain ⟨A1,n1,c1,rfl,hn1,hs1⟩:=h.parts
 obtain ⟨A2,n2,c2,rfl,hn2,hs2⟩:=h'.parts
 rw [show decide (a < 0) = true by simp; omega,show decide (b < 0) = false by simp; omega]
 have HC:=hid (fun W (hb:Below w.heap.size w W)=>rNatCmp_any _ _ _ _ W (hs1.below hb) (hs2.below hb) oM oM)
 have HA:=hid (fun W (hb:Below w.heap.size w W)=>rNatSub_any _ _ _ _ W (hs1.below hb) (hs2.below hb) hg oM)
 have HS:=hid (fun v W (hv:IsNat W v (a.natAbs - b.natAbs))=>rsigned_any true v _ (a + b) W hv oM (by rw [Bool.eq_iff_iff]; simp; omega))
 have hcm:0 <= cmpN a.natAbs b.natAbs:=by unfold cmpN; rw [if_neg oM]; split <;> simp
 generalize cmpN a.natAbs b.natAbs = cm at *
 clear h h' hs1 hs2 hn1 hn2 sa sb ha hb hg
 have hne1:¬ (w.heap.size + 1 + 1 = w.heap.size):=oM
 have hne2:¬ (w.heap.size = w.heap.size + 1 + 1):=oM
 go_enter Tryz.func109,Tryz.ntmps109
 go_wp2_with fail
 refine (HC.out _ bel).mono ?_
 rintro e W5 ⟨rfl,q5,rfl⟩
 go_wp2_with fail
 go_region_held3 (fun w'=>w'.cell? ⟨w.heap.size,0,none⟩ = some (.bool true) /\ w'.cell? ⟨w.heap.size,1,none⟩ = some (.slice A1 n1 c1) /\ w'.cell? ⟨w.heap.size + 1,0,none⟩ = some (.bool false) /\ w'.cell? ⟨w.heap.size + 1,1,none⟩ = some (.slice A2 n2 c2)) (go_keep) (first | (go_at_call 147; ((with_reducible refine (HA.out _ ?_).mono ?_); (exact bel); (rintro e W6 ⟨r6,rfl,hr6,hb6⟩; obtain ⟨A6,n6,c6,rfl,hn6⟩:=hr6.ex; clear hn6; obtain ⟨hc6,hf6,hz6⟩:=bcells hb6 (w.heap.size + 3) (by simp <;> omega)))) | (go_at_call 144; ((with_reducible refine (HS.out _ _ (hr6.below bel)).mono ?_); (rintro e W7 ⟨r7,rfl,hr7,hb7⟩; obtain ⟨A7,n7,c7,rfl,hn7,-⟩:=hr7.parts; clear hn7; generalize hq7:decide (a + b < 0) = q7 at *; clear hq7; have kb7:Below W6.heap.size W6 W7:=bel; clear hb7; obtain ⟨hc7,hf7,hz7⟩:=bcells kb7 (w.heap.size + 3) oM))))
 go_wp2
 have B6:Below w.heap.size w W6:=bel
 have B7:=bT B6 kb7
 have IB:IntBox W7 (w.heap.size + 2):=IntBox.of hc7 oM (IntBox.of hc6 (g:=w.heap.size + 2) oM (IntBox.mk' (A:=none) (n:=0) (c:=0) (p:=false) sG sG))
 refine bodyPost_ret (v:=.agg #[.bool q7,.slice A7 n7 c7]) (by simp [results,Tryz.results109]; exact run_loadRI IB _ _) rfl ?_
 exact RetRI.box B7 oM IB hr7 _ _
theorem rIntAdd_npl (v u:Value) (a b:Int) (w:World) (h:IsRI w v a) (h':IsRI w u b) (sa:wl a.natAbs < 549755813888) (sb:wl b.natAbs < 549755813888) (ha:a < 0) (hb:0 <= b) (hg:a.natAbs < b.natAbs) :
  Calls Tryz.prog 109 #[v,u] w (RetRI w (a + b)):=by
 obtain ⟨A1,n1,c1,rfl,hn1,hs1⟩:=h.parts
 obtain ⟨A2,n2,c2,rfl,hn2,hs2⟩:=h'.parts
 rw [show decide (a < 0) = true by simp; omega,show decide (b < 0) = false by simp; omega]
 have HC:=hid (fun W (hb:Below w.heap.size w W)=>rNatCmp_any _ _ _ _ W (hs1.below hb) (hs2.below hb) oM oM)
 have HA:=hid (fun W (hb:Below w.heap.size w W)=>rNatSub_any _ _ _ _ W (hs2.below hb) (hs1.below hb) (Nat.le_of_lt hg) oM)
 have HS:=hid (fun v W (hv:IsNat W v (b.natAbs - a.natAbs))=>rsigned_any false v _ (a + b) W hv oM (by rw [Bool.eq_iff_iff]; simp; omega))
 have hcm:¬ 0 <= cmpN a.natAbs b.natAbs:=by unfold cmpN; rw [if_pos hg]; simp
 generalize cmpN a.natAbs b.natAbs = cm at *
 clear h h' hs1 hs2 hn1 hn2 sa sb ha hb hg
 have hne1:¬ (w.heap.size + 1 + 1 = w.heap.size):=oM
 have hne2:¬ (w.heap.size = w.heap.size + 1 + 1):=oM
 go_enter Tryz.func109,Tryz.ntmps109
 go_wp2_with fail
 refine (HC.out _ bel).mono ?_
 rintro e W5 ⟨rfl,q5,rfl⟩
 go_wp2_with fail
 go_region_held3 (fun w'=>w'.cell? ⟨w.heap.size,0,none⟩ = some (.bool true) /\ w'.cell? ⟨w.heap.size,1,none⟩ = some (.slice A1 n1 c1) /\ w'.cell? ⟨w.heap.size + 1,0,none⟩ = some (.bool false) /\ w'.cell? ⟨w.heap.size + 1,1,none⟩ = some (.slice A2 n2 c2)) (go_keep) (first | (go_at_call 147; ((with_reducible refine (HA.out _ ?_).mono ?_); (exact bel); (rintro e W6 ⟨r6,rfl,hr6,hb6⟩; obtain ⟨A6,n6,c6,rfl,hn6⟩:=hr6.ex; clear hn6; obtain ⟨hc6,hf6,hz6⟩:=bcells hb6 (w.heap.size + 3) (by simp <;> omega)))) | (go_at_call 144; ((with_reducible refine (HS.out _ _ (hr6.below bel)).mono ?_); (rintro e W7 ⟨r7,rfl,hr7,hb7⟩; obtain ⟨A7,n7,c7,rfl,hn7,-⟩:=hr7.parts; clear hn7; generalize hq7:decide (a + b < 0) = q7 at *; clear hq7; have kb7:Below W6.heap.size W6 W7:=bel; clear hb7; obtain ⟨hc7,hf7,hz7⟩:=bcells kb7 (w.heap.size + 3) oM))))
 go_wp2
 have B6:Below w.heap.size w W6:=bel
 have B7:=bT B6 kb7
 have IB:IntBox W7 (w.heap.size + 2):=IntBox.of hc7 oM (IntBox.of hc6 (g:=w.heap.size + 2) oM (IntBox.mk' (A:=none) (n:=0) (c:=0) (p:=false) sG sG))
 refine bodyPost_ret (v:=.agg #[.bool q7,.slice A7 n7 c7]) (by simp [results,Tryz.results109]; exact run_loadRI IB _ _) rfl ?_
 exact RetRI.box B7 oM IB hr7 _ _
theorem rIntAdd_png (v u:Value) (a b:Int) (w:World) (h:IsRI w v a) (h':IsRI w u b) (sa:wl a.natAbs < 549755813888) (sb:wl b.natAbs < 549755813888) (ha:0 <= a) (hb:b < 0) (hg:b.natAbs <= a.natAbs) :
  Calls Tryz.prog 109 #[v,u] w (RetRI w (a + b)):=by
 obtain ⟨A1,n1,c1,rfl,hn1,hs1⟩:=h.parts
 obtain ⟨A2,n2,c2,rfl,hn2,hs2⟩:=h'.parts
 rw [show decide (a < 0) = false by simp; omega,show decide (b < 0) = true by simp; omega]
 have HC:=hid (fun W (hb:Below w.heap.size w W)=>rNatCmp_any _ _ _ _ W (hs1.below hb) (hs2.below hb) oM oM)
 have HA:=hid (fun W (hb:Below w.heap.size w W)=>rNatSub_any _ _ _ _ W (hs1.below hb) (hs2.below hb) hg oM)
 have HS:=hid (fun v W (hv:IsNat W v (a.natAbs - b.natAbs))=>rsigned_any false v _ (a + b) W hv oM (by rw [Bool.eq_iff_iff]; simp; omega))
 have hcm:0 <= cmpN a.natAbs b.natAbs:=by unfold cmpN; rw [if_neg oM]; split <;> simp
 generalize cmpN a.natAbs b.natAbs = cm at *
 clear h h' hs1 hs2 hn1 hn2 sa sb ha hb hg
 have hne1:¬ (w.heap.size + 1 + 1 = w.heap.size):=oM
 have hne2:¬ (w.heap.size = w.heap.size + 1 + 1):=oM
 go_enter Tryz.func109,Tryz.ntmps109
 go_wp2_with fail
 refine (HC.out _ bel).mono ?_
 rintro e W5 ⟨rfl,q5,rfl⟩
 go_wp2_with fail
 go_region_held3 (fun w'=>w'.cell? ⟨w.heap.size,0,none⟩ = some (.bool false) /\ w'.cell? ⟨w.heap.size,1,none⟩ = some (.slice A1 n1 c1) /\ w'.cell? ⟨w.heap.size + 1,0,none⟩ = some (.bool true) /\ w'.cell? ⟨w.heap.size + 1,1,none⟩ = some (.slice A2 n2 c2)) (go_keep) (first | (go_at_call 147; ((with_reducible refine (HA.out _ ?_).mono ?_); (exact bel); (rintro e W6 ⟨r6,rfl,hr6,hb6⟩; obtain ⟨A6,n6,c6,rfl,hn6⟩:=hr6.ex; clear hn6; obtain ⟨hc6,hf6,hz6⟩:=bcells hb6 (w.heap.size + 3) (by simp <;> omega)))) | (go_at_call 144; ((with_reducible refine (HS.out _ _ (hr6.below bel)).mono ?_); (rintro e W7 ⟨r7,rfl,hr7,hb7⟩; obtain ⟨A7,n7,c7,rfl,hn7,-⟩:=hr7.parts; clear hn7; generalize hq7:decide (a + b < 0) = q7 at *; clear hq7; have kb7:Below W6.heap.size W6 W7:=bel; clear hb7; obtain ⟨hc7,hf7,hz7⟩:=bcells kb7 (w.heap.size + 3) oM))))
 go_wp2
 have B6:Below w.heap.size w W6:=bel
 have B7:=bT B6 kb7
 have IB:IntBox W7 (w.heap.size + 2):=IntBox.of hc7 oM (IntBox.of hc6 (g:=w.heap.size + 2) oM (IntBox.mk' (A:=none) (n:=0) (c:=0) (p:=false) sG sG))
 refine bodyPost_ret (v:=.agg #[.bool q7,.slice A7 n7 c7]) (by simp [results,Tryz.results109]; exact run_loadRI IB _ _) rfl ?_
 exact RetRI.box B7 oM IB hr7 _ _
theorem rIntAdd_pnl (v u:Value) (a b:Int) (w:World) (h:IsRI w v a) (h':IsRI w u b) (sa:wl a.natAbs < 549755813888) (sb:wl b.natAbs < 549755813888) (ha:0 <= a) (hb:b < 0) (hg:a.natAbs < b.natAbs) :
  Calls Tryz.prog 109 #[v,u] w (RetRI w (a + b)):=by
 obtain ⟨A1,n1,c1,rfl,hn1,hs1⟩:=h.parts
 obtain ⟨A2,n2,c2,rfl,hn2,hs2⟩:=h'.parts
 rw [show decide (a < 0) = false by simp; omega,show decide (b < 0) = true by simp; omega]
 have HC:=hid (fun W (hb:Below w.heap.size w W)=>rNatCmp_any _ _ _ _ W (hs1.below hb) (hs2.below hb) oM oM)
 have HA:=hid (fun W (hb:Below w.heap.size w W)=>rNatSub_any _ _ _ _ W (hs2.below hb) (hs1.below hb) (Nat.le_of_lt hg) oM)
 have HS:=hid (fun v W (hv:IsNat W v (b.natAbs - a.natAbs))=>rsigned_any true v _ (a + b) W hv oM (by rw [Bool.eq_iff_iff]; simp; omega))
 have hcm:¬ 0 <= cmpN a.natAbs b.natAbs:=by unfold cmpN; rw [if_pos hg]; simp
 generalize cmpN a.natAbs b.natAbs = cm at *
 clear h h' hs1 hs2 hn1 hn2 sa sb ha hb hg
 have hne1:¬ (w.heap.size + 1 + 1 = w.heap.size):=oM
 have hne2:¬ (w.heap.size = w.heap.size + 1 + 1):=oM
 go_enter Tryz.func109,Tryz.ntmps109
 go_wp2_with fail
 refine (HC.out _ bel).mono ?_
 rintro e W5 ⟨rfl,q5,rfl⟩
 go_wp2_with fail
 go_region_held3 (fun w'=>w'.cell? ⟨w.heap.size,0,none⟩ = some (.bool false) /\ w'.cell? ⟨w.heap.size,1,none⟩ = some (.slice A1 n1 c1) /\ w'.cell? ⟨w.heap.size + 1,0,none⟩ = some (.bool true) /\ w'.cell? ⟨w.heap.size + 1,1,none⟩ = some (.slice A2 n2 c2)) (go_keep) (first | (go_at_call 147; ((with_reducible refine (HA.out _ ?_).mono ?_); (exact bel); (rintro e W6 ⟨r6,rfl,hr6,hb6⟩; obtain ⟨A6,n6,c6,rfl,hn6⟩:=hr6.ex; clear hn6; obtain ⟨hc6,hf6,hz6⟩:=bcells hb6 (w.heap.size + 3) (by simp <;> omega)))) | (go_at_call 144; ((with_reducible refine (HS.out _ _ (hr6.below bel)).mono ?_); (rintro e W7 ⟨r7,rfl,hr7,hb7⟩; obtain ⟨A7,n7,c7,rfl,hn7,-⟩:=hr7.parts; clear hn7; generalize hq7:decide (a + b < 0) = q7 at *; clear hq7; have kb7:Below W6.heap.size W6 W7:=bel; clear hb7; obtain ⟨hc7,hf7,hz7⟩:=bcells kb7 (w.heap.size + 3) oM))))
 go_wp2
 have B6:Below w.heap.size w W6:=bel
 have B7:=bT B6 kb7
 have IB:IntBox W7 (w.heap.size + 2):=IntBox.of hc7 oM (IntBox.of hc6 (g:=w.heap.size + 2) oM (IntBox.mk' (A:=none) (n:=0) (c:=0) (p:=false) sG sG))
 refine bodyPost_ret (v:=.agg #[.bool q7,.slice A7 n7 c7]) (by simp [results,Tryz.results109]; exact run_loadRI IB _ _) rfl ?_
 exact RetRI.box B7 oM IB hr7 _ _
theorem rIntAdd_any (v u:Value) (a b:Int) (w:World) (h:IsRI w v a) (h':IsRI w u b) (sa:wl a.natAbs < 549755813888) (sb:wl b.natAbs < 549755813888) :
  Calls Tryz.prog 109 #[v,u] w (RetRI w (a + b)):=by
 rcases Int.lt_or_le a 0 with ha | ha <;> rcases Int.lt_or_le b 0 with hb | hb
 ·exact rIntAdd_nna v u a b w h h' sa sb ha hb
 ·rcases Nat.lt_or_ge a.natAbs b.natAbs with hg | hg
  ·exact rIntAdd_npl v u a b w h h' sa sb ha hb hg
  ·exact rIntAdd_npg v u a b w h h' sa sb ha hb hg
 ·rcases Nat.lt_or_ge a.natAbs b.natAbs with hg | hg
  ·exact rIntAdd_pnl v u a b w h h' sa sb ha hb hg
  ·exact rIntAdd_png v u a b w h h' sa sb ha hb hg
 ·exact rIntAdd_ppa v u a b w h h' sa sb ha hb
theorem rIntSub_any (v u:Value) (a b:Int) (w:World) (h:IsRI w v a) (h':IsRI w u b) (sa:wl a.natAbs < 549755813888) (sb:wl b.natAbs < 549755813888) :
  Calls Tryz.prog 107 #[v,u] w (RetRI w (a - b)):=by
 obtain ⟨A1,n1,c1,rfl,hn1,hs1⟩:=h.parts
 obtain ⟨A2,n2,c2,rfl,hn2,hs2⟩:=h'.parts
 have HA:=hid (fun W (hb:Below w.heap.size w W)=>rIntNeg_any _ b W (h'.below hb))
 have HS:=hid (fun v W (hb:Below w.heap.size w W) (hv:IsRI W v (-b))=>rIntAdd_any _ v a (-b) W (h.below hb) hv sa (by rw [Int.natAbs_neg]; exact sb))
 rw [show a + -b = a - b by omega] at HS
 clear h h' hs1 hs2 hn1 hn2 sa sb
 have hne1:¬ (w.heap.size + 1 + 1 = w.heap.size):=oM
 have hne2:¬ (w.heap.size = w.heap.size + 1 + 1):=oM
 generalize decide (a < 0) = p1 at *
 generalize decide (b < 0) = p2 at *
 go_enter Tryz.func107,Tryz.ntmps107
 go_wp2_with fail
 go_region_held3 (fun w'=>w'.cell? ⟨w.heap.size,0,none⟩ = some (.bool p1) /\ w'.cell? ⟨w.heap.size,1,none⟩ = some (.slice A1 n1 c1) /\ w'.cell? ⟨w.heap.size + 1,0,none⟩ = some (.bool p2) /\ w'.cell? ⟨w.heap.size + 1,1,none⟩ = some (.slice A2 n2 c2)) (go_keep) (first | (go_at_call 111; ((with_reducible refine (HA.out _ ?_).mono ?_); (exact bel); (rintro e W6 ⟨r6,rfl,hr6,hb6⟩; obtain ⟨A6,n6,c6,rfl,hn6,-⟩:=hr6.parts; clear hn6; generalize hq6:decide (-b < 0) = q6 at *; clear hq6; obtain ⟨hc6,hf6,hz6⟩:=bcells hb6 (w.heap.size + 3) (by simp <;> omega)))) | (go_at_call 109; ((with_reducible refine (HS.out _ _ ?_ (hr6.below bel)).mono ?_); (exact bel); (rintro e W7 ⟨r7,rfl,hr7,hb7⟩; obtain ⟨A7,n7,c7,rfl,hn7,-⟩:=hr7.parts; clear hn7; generalize hq7:decide (a - b < 0) = q7 at *; clear hq7; have kb7:Below W6.heap.size W6 W7:=bel; clear hb7; obtain ⟨hc7,hf7,hz7⟩:=bcells kb7 (w.heap.size + 3) oM))))
 go_wp2
 have B6:Below w.heap.size w W6:=bel
 have B7:=bT B6 kb7
 have IB:IntBox W7 (w.heap.size + 2):=IntBox.of hc7 oM (IntBox.of hc6 (g:=w.heap.size + 2) oM (IntBox.mk' (A:=none) (n:=0) (c:=0) (p:=false) sG sG))
 refine bodyPost_ret (v:=.agg #[.bool q7,.slice A7 n7 c7]) (by simp [results,Tryz.results107]; exact run_loadRI IB _ _) rfl ?_
 exact RetRI.box B7 oM IB hr7 _ _
theorem sign_mul (a b:Int):((decide (a < 0) != decide (b < 0)) && decide (0 < a.natAbs * b.natAbs)) = decide (a * b < 0):=by
 have e:(a * b).natAbs = a.natAbs * b.natAbs:=Int.natAbs_mul a b
 rw [<- e]
 rcases Int.lt_trichotomy a 0 with ha | ha | ha <;> rcases Int.lt_trichotomy b 0 with hb | hb | hb
 ·have:=Int.mul_pos_of_neg_of_neg ha hb
  simp [ha,hb]; omega
 ·subst hb; simp
 ·have:=Int.mul_neg_of_neg_of_pos ha hb
  rw [Bool.eq_iff_iff]; simp [ha,show ¬ b < 0 by omega]; omega
 ·subst ha; simp
 ·subst ha; simp
 ·subst ha; simp
 ·have:=Int.mul_neg_of_pos_of_neg ha hb
  rw [Bool.eq_iff_iff]; simp [hb,show ¬ a < 0 by omega]; omega
 ·subst hb; simp
 ·have:=Int.mul_pos ha hb
  simp [show ¬ a < 0 by omega,show ¬ b < 0 by omega]; omega
theorem rIntMul_any (v u:Value) (a b:Int) (w:World) (h:IsRI w v a) (h':IsRI w u b) (sa:wl a.natAbs < 549755813888) (sb:wl b.natAbs < 549755813888) :
  Calls Tryz.prog 108 #[v,u] w (RetRI w (a * b)):=by
 obtain ⟨A1,n1,c1,rfl,hn1,hs1⟩:=h.parts
 obtain ⟨A2,n2,c2,rfl,hn2,hs2⟩:=h'.parts
 have HA:=hid (fun W (hb:Below w.heap.size w W)=>rNatMul_any _ _ _ _ W (hs1.below hb) (hs2.below hb) oM oM)
 obtain ⟨pq,hpq⟩:∃ pq,pq = (decide (a < 0) != decide (b < 0)):=⟨_,rfl⟩
 have HS:=hid (fun v W (hv:IsNat W v (a.natAbs * b.natAbs))=>rsigned_any pq v _ (a * b) W hv (Int.natAbs_mul a b) (by rw [hpq]; exact sign_mul a b))
 clear h h' hs1 hs2 hn1 hn2 sa sb
 have hne1:¬ (w.heap.size + 1 + 1 = w.heap.size):=oM
 have hne2:¬ (w.heap.size = w.heap.size + 1 + 1):=oM
 generalize decide (a < 0) = p1 at *
 generalize decide (b < 0) = p2 at *
 cases p1 <;> cases p2
 ·obtain rfl:pq = false:=hpq
  go_enter Tryz.func108,Tryz.ntmps108
  go_wp2_with fail
  go_region_held3 (fun w'=>w'.cell? ⟨w.heap.size,0,none⟩ = some (.bool false) /\ w'.cell? ⟨w.heap.size,1,none⟩ = some (.slice A1 n1 c1) /\ w'.cell? ⟨w.heap.size + 1,0,none⟩ = some (.bool false) /\ w'.cell? ⟨w.heap.size + 1,1,none⟩ = some (.slice A2 n2 c2)) (go_keep) (first | (go_at_call 110; ((with_reducible refine (HA.out _ ?_).mono ?_); (exact bel); (rintro e W6 ⟨r6,rfl,hr6,hb6⟩; obtain ⟨A6,n6,c6,rfl,hn6⟩:=hr6.ex; clear hn6; obtain ⟨hc6,hf6,hz6⟩:=bcells hb6 (w.heap.size + 3) (by simp <;> omega)))) | (go_at_call 144; ((with_reducible refine (HS.out _ _ (hr6.below bel)).mono ?_); (rintro e W7 ⟨r7,rfl,hr7,hb7⟩; obtain ⟨A7,n7,c7,rfl,hn7,-⟩:=hr7.parts; clear hn7; generalize hq7:decide (a * b < 0) = q7 at *; clear hq7; have kb7:Below W6.heap.size W6 W7:=bel; clear hb7; obtain ⟨hc7,hf7,hz7⟩:=bcells kb7 (w.heap.size + 3) oM))))
  go_wp2
  have B6:Below w.heap.size w W6:=bel
  have B7:=bT B6 kb7
  have IB:IntBox W7 (w.heap.size + 2):=IntBox.of hc7 oM (IntBox.of hc6 (g:=w.heap.size + 2) oM (IntBox.mk' (A:=none) (n:=0) (c:=0) (p:=false) sG sG))
  refine bodyPost_ret (v:=.agg #[.bool q7,.slice A7 n7 c7]) (by simp [results,Tryz.results108]; exact run_loadRI IB _ _) rfl ?_
  exact RetRI.box B7 oM IB hr7 _ _
 ·obtain rfl:pq = true:=hpq
  go_enter Tryz.func108,Tryz.ntmps108
  go_wp2_with fail
  go_region_held3 (fun w'=>w'.cell? ⟨w.heap.size,0,none⟩ = some (.bool false) /\ w'.cell? ⟨w.heap.size,1,none⟩ = some (.slice A1 n1 c1) /\ w'.cell? ⟨w.heap.size + 1,0,none⟩ = some (.bool true) /\ w'.cell? ⟨w.heap.size + 1,1,none⟩ = some (.slice A2 n2 c2)) (go_keep) (first | (go_at_call 110; ((with_reducible refine (HA.out _ ?_).mono ?_); (exact bel); (rintro e W6 ⟨r6,rfl,hr6,hb6⟩; obtain ⟨A6,n6,c6,rfl,hn6⟩:=hr6.ex; clear hn6; obtain ⟨hc6,hf6,hz6⟩:=bcells hb6 (w.heap.size + 3) (by simp <;> omega)))) | (go_at_call 144; ((with_reducible refine (HS.out _ _ (hr6.below bel)).mono ?_); (rintro e W7 ⟨r7,rfl,hr7,hb7⟩; obtain ⟨A7,n7,c7,rfl,hn7,-⟩:=hr7.parts; clear hn7; generalize hq7:decide (a * b < 0) = q7 at *; clear hq7; have kb7:Below W6.heap.size W6 W7:=bel; clear hb7; obtain ⟨hc7,hf7,hz7⟩:=bcells kb7 (w.heap.size + 3) oM))))
  go_wp2
  have B6:Below w.heap.size w W6:=bel
  have B7:=bT B6 kb7
  have IB:IntBox W7 (w.heap.size + 2):=IntBox.of hc7 oM (IntBox.of hc6 (g:=w.heap.size + 2) oM (IntBox.mk' (A:=none) (n:=0) (c:=0) (p:=false) sG sG))
  refine bodyPost_ret (v:=.agg #[.bool q7,.slice A7 n7 c7]) (by simp [results,Tryz.results108]; exact run_loadRI IB _ _) rfl ?_
  exact RetRI.box B7 oM IB hr7 _ _
 ·obtain rfl:pq = true:=hpq
  go_enter Tryz.func108,Tryz.ntmps108
  go_wp2_with fail
  go_region_held3 (fun w'=>w'.cell? ⟨w.heap.size,0,none⟩ = some (.bool true) /\ w'.cell? ⟨w.heap.size,1,none⟩ = some (.slice A1 n1 c1) /\ w'.cell? ⟨w.heap.size + 1,0,none⟩ = some (.bool false) /\ w'.cell? ⟨w.heap.size + 1,1,none⟩ = some (.slice A2 n2 c2)) (go_keep) (first | (go_at_call 110; ((with_reducible refine (HA.out _ ?_).mono ?_); (exact bel); (rintro e W6 ⟨r6,rfl,hr6,hb6⟩; obtain ⟨A6,n6,c6,rfl,hn6⟩:=hr6.ex; clear hn6; obtain ⟨hc6,hf6,hz6⟩:=bcells hb6 (w.heap.size + 3) (by simp <;> omega)))) | (go_at_call 144; ((with_reducible refine (HS.out _ _ (hr6.below bel)).mono ?_); (rintro e W7 ⟨r7,rfl,hr7,hb7⟩; obtain ⟨A7,n7,c7,rfl,hn7,-⟩:=hr7.parts; clear hn7; generalize hq7:decide (a * b < 0) = q7 at *; clear hq7; have kb7:Below W6.heap.size W6 W7:=bel; clear hb7; obtain ⟨hc7,hf7,hz7⟩:=bcells kb7 (w.heap.size + 3) oM))))
  go_wp2
  have B6:Below w.heap.size w W6:=bel
  have B7:=bT B6 kb7
  have IB:IntBox W7 (w.heap.size + 2):=IntBox.of hc7 oM (IntBox.of hc6 (g:=w.heap.size + 2) oM (IntBox.mk' (A:=none) (n:=0) (c:=0) (p:=false) sG sG))
  refine bodyPost_ret (v:=.agg #[.bool q7,.slice A7 n7 c7]) (by simp [results,Tryz.results108]; exact run_loadRI IB _ _) rfl ?_
  exact RetRI.box B7 oM IB hr7 _ _
 ·obtain rfl:pq = false:=hpq
  go_enter Tryz.func108,Tryz.ntmps108
  go_wp2_with fail
  go_region_held3 (fun w'=>w'.cell? ⟨w.heap.size,0,none⟩ = some (.bool true) /\ w'.cell? ⟨w.heap.size,1,none⟩ = some (.slice A1 n1 c1) /\ w'.cell? ⟨w.heap.size + 1,0,none⟩ = some (.bool true) /\ w'.cell? ⟨w.heap.size + 1,1,none⟩ = some (.slice A2 n2 c2)) (go_keep) (first | (go_at_call 110; ((with_reducible refine (HA.out _ ?_).mono ?_); (exact bel); (rintro e W6 ⟨r6,rfl,hr6,hb6⟩; obtain ⟨A6,n6,c6,rfl,hn6⟩:=hr6.ex; clear hn6; obtain ⟨hc6,hf6,hz6⟩:=bcells hb6 (w.heap.size + 3) (by simp <;> omega)))) | (go_at_call 144; ((with_reducible refine (HS.out _ _ (hr6.below bel)).mono ?_); (rintro e W7 ⟨r7,rfl,hr7,hb7⟩; obtain ⟨A7,n7,c7,rfl,hn7,-⟩:=hr7.parts; clear hn7; generalize hq7:decide (a * b < 0) = q7 at *; clear hq7; have kb7:Below W6.heap.size W6 W7:=bel; clear hb7; obtain ⟨hc7,hf7,hz7⟩:=bcells kb7 (w.heap.size + 3) oM))))
  go_wp2
  have B6:Below w.heap.size w W6:=bel
  have B7:=bT B6 kb7
  have IB:IntBox W7 (w.heap.size + 2):=IntBox.of hc7 oM (IntBox.of hc6 (g:=w.heap.size + 2) oM (IntBox.mk' (A:=none) (n:=0) (c:=0) (p:=false) sG sG))
  refine bodyPost_ret (v:=.agg #[.bool q7,.slice A7 n7 c7]) (by simp [results,Tryz.results108]; exact run_loadRI IB _ _) rfl ?_
  exact RetRI.box B7 oM IB hr7 _ _
end Go.Proofs.YtffegeaflohfhaaGreatDoor
