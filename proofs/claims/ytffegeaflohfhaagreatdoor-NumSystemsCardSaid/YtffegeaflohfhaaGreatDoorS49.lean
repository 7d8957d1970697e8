import Derived.Test.YtffegeaflohfhaaGreatDoorS31
import Derived.Test.YtffegeaflohfhaaGreatDoorS39
import Derived.Test.YtffegeaflohfhaaGreatDoorS42
import Derived.Test.YtffegeaflohfhaaGreatDoorS02
set_option linter.unusedVariables false
set_option linter.unusedSimpArgs false
set_option maxRecDepth 100000
set_option maxHeartbeats 8000000
namespace Go.Proofs.YtffegeaflohfhaaGreatDoor
open Go.RowKit
def Sqr (n:Nat) (ml:Nat -> Nat):Prop:=Vld n ml /\ n = colsOf n ml
def RetB (w:World) (p:Prop) (e:Ending) (w':World):Prop:=∃ b:Bool,e = .returned (.bool b) /\ (b = true ↔ p) /\ Below w.heap.size w w'
def RetNo (w:World) (k:Int) (e:Ending) (w':World):Prop:=e = .returned (.tuple #[.slice none 0 0,.int .i64 k]) /\ Below w.heap.size w w'
theorem squareN_all (w:World) (v:Value) (n:Nat) (ml:Nat -> Nat) (F:Nat -> Nat -> Cx) (h:NSS w v n ml F) (hn:n <= 1099511627776) (hml:∀ i,i < n -> ml i <= 1099511627776) :
  Calls Tryz.prog 43 #[v] w (RetB w (Sqr n ml)):=by
 have HV:=hid (sidesN_all w v n ml F h hn hml)
 obtain ⟨A,c,rfl,-⟩:=h
 clear hml
 go_enter Tryz.func43,Tryz.ntmps43
 go_wp2_with fail
 refine HV.out.mono ?_
 rintro e W2 ⟨r,cc,b,rfl,hb1,hb2,hb3⟩
 have X1:=hid hb1
 have X2:=hid hb2
 have X3:=hid hb3
 clear hb1 hb2 hb3 HV
 cases b
 ·go_wp2
  go_ret
  exact ⟨false,rfl,⟨fun h=>absurd h sP,fun h=>X1.out.2 h.1⟩,X3.out⟩
 ·go_wp2
  go_ret
  refine ⟨_,rfl,?_,X3.out⟩
  obtain ⟨e1,e2⟩:=X2.out (by trivial)
  have hv:=X1.out.1 (by trivial)
  have:Sqr n ml ↔ r = cc:=⟨fun h=>by rw [e1,e2]; exact h.2,fun h=>⟨hv,by rw [<- e2,<- h]; exact e1.symm⟩⟩
  rw [this]
  simp
  try omega
theorem detN_bad (w:World) (v:Value) (n:Nat) (ml:Nat -> Nat) (F:Nat -> Nat -> Cx) (h:NSS w v n ml F) (hn:n <= 1099511627776) (hml:∀ i,i < n -> ml i <= 1099511627776) (hbad:¬ Sqr n ml) :
  Calls Tryz.prog 10 #[v] w (RetNumE w .zero 4):=by
 have HQ:=hid (fun W (hb:Below w.heap.size w W)=>squareN_all W v n ml F (h.below hb) hn hml)
 have HX:=hid hbad
 obtain ⟨A,c,rfl,-⟩:=h
 clear hml hbad
 go_enter Tryz.func10,Tryz.ntmps10
 go_upto_region 2 with fail
 obtain ⟨W1,hW1⟩:∃ W1:World,W1 = ((w.alloc (.cells zNum 35)).alloc (.cells zNum 35)):=⟨_,rfl⟩
 unfold zNum at hW1
 rw [<- hW1]
 have B1:Below w.heap.size w W1:=by rw [hW1]; exact bel
 have z4:w.heap.size + 1 < W1.heap.size:=by rw [hW1]; simp
 have X2:W1.heap[w.heap.size]? = some (.cells zNum 35 (0,0)):=by rw [hW1]; exact heap_alloc2_old _ _ _
 have X3:W1.heap[w.heap.size + 1]? = some (.cells zNum 35 (0,0)):=by rw [hW1,show w.heap.size + 1 = (w.alloc (.cells zNum 35)).heap.size by simp]; exact heap_alloc_new _ _
 clear hW1
 have HX2:=hid X2
 have HX3:=hid X3
 clear X2 X3
 go_wp2_with fail
 refine (HQ.out W1 B1).mono ?_
 rintro e W2 ⟨b,rfl,hb1,hb⟩
 obtain rfl:b = false:=by
  cases b
  ·rfl
  ·exact absurd (hb1.1 rfl) HX.out
 have x2:=(hb.block w.heap.size oM).trans HX2.out
 have x3:=(hb.block (w.heap.size + 1) oM).trans HX3.out
 have B2:=hid (bT B1 hb)
 clear hb hb1 B1 HX2 HX3
 obtain ⟨f0,f1,f2,f3,f4,y0,y1,y2,y3,y4⟩:=bx5 x2
 obtain ⟨g0,g1,g2,g3,g4,z0,z1,z2,z3,z4⟩:=bx5 x3
 have NB:=NumBox.nil f0 f1 f2 f3 f4
 go_wp2
 refine bodyPost_ret (v:=.tuple #[.agg #[.slice none 0 0,.bool false,.slice none 0 0,.bool false,.slice none 0 0],.int .i64 4]) (by simp [results,Tryz.results10]; exact run_load5e NB _ _ _ _ _ _) rfl ?_
 exact RetNumE.box B2.out lR NB (IsNum.zero _) _ _ _ _ _
theorem solveN_bad (w:World) (v u:Value) (n p:Nat) (ml:Nat -> Nat) (F:Nat -> Nat -> Cx) (f:Nat -> Cx) (h:NSS w v n ml F) (h':NSl w u p f) (hn:n <= 1099511627776) (hml:∀ i,i < n -> ml i <= 1099511627776) (hbad:¬ (Sqr n ml /\ p = n)) :
  Calls Tryz.prog 13 #[v,u] w (RetNo w 4):=by
 have HQ:=hid (squareN_all w v n ml F h hn hml)
 have HX:=hid hbad
 obtain ⟨A,c,rfl,-⟩:=h
 obtain ⟨A',c',rfl,-⟩:=h'
 clear hml hbad
 go_enter Tryz.func13,Tryz.ntmps13
 go_wp2_with fail
 refine HQ.out.mono ?_
 rintro e W2 ⟨b,rfl,hb1,hb⟩
 have X1:=hid hb1
 have B2:=hid hb
 clear hb hb1 HQ
 cases b
 ·go_wp2
  go_ret2
  exact ⟨rfl,B2.out⟩
 ·have hne:((p:Int) != (n:Int)) = true:=by
   have:p ≠ n:=fun e=>HX.out ⟨X1.out.1 (by trivial),e⟩
   simp; omega
  go_wp2
  go_ret2
  exact ⟨rfl,B2.out⟩
theorem inverseN_bad (w:World) (v:Value) (n:Nat) (ml:Nat -> Nat) (F:Nat -> Nat -> Cx) (h:NSS w v n ml F) (hn:n <= 1099511627776) (hml:∀ i,i < n -> ml i <= 1099511627776) (hbad:¬ Sqr n ml) :
  Calls Tryz.prog 18 #[v] w (RetNo w 4):=by
 have HQ:=hid (squareN_all w v n ml F h hn hml)
 have HX:=hid hbad
 obtain ⟨A,c,rfl,-⟩:=h
 clear hml hbad
 go_enter Tryz.func18,Tryz.ntmps18
 go_wp2_with fail
 refine HQ.out.mono ?_
 rintro e W2 ⟨b,rfl,hb1,hb⟩
 obtain rfl:b = false:=by
  cases b
  ·rfl
  ·exact absurd (hb1.1 rfl) HX.out
 clear hb1 HQ
 go_wp2
 go_ret2
 exact ⟨rfl,hb⟩
theorem rankN_bad (w:World) (v:Value) (n:Nat) (ml:Nat -> Nat) (F:Nat -> Nat -> Cx) (h:NSS w v n ml F) (hn:n <= 1099511627776) (hml:∀ i,i < n -> ml i <= 1099511627776) (hbad:¬ Vld n ml) :
  Calls Tryz.prog 21 #[v] w fun e w'=>e = .returned (.tuple #[.int .i64 0,.int .i64 4]) /\ Below w.heap.size w w':=by
 have HV1:=hid (sidesN_all w v n ml F h hn hml)
 have HX:=hid hbad
 obtain ⟨A,c,rfl,-⟩:=h
 clear hml hbad
 go_enter Tryz.func21,Tryz.ntmps21
 go_wp2_with fail
 refine HV1.out.mono ?_
 rintro e W2 ⟨r1,c1,b1,rfl,hb1,hb2,hb3⟩
 have hf:b1 = false:=by
  cases b1
  ·rfl
  ·exact absurd (hb1.1 rfl) HX.out
 subst hf
 clear hb1 hb2
 go_wp2
 go_ret2
 exact ⟨rfl,hb3⟩
theorem rankR_any (w:World) (ga:Nat) (gi:Nat -> Nat) (n m s:Nat) (F:Nat -> Nat -> Cx) (h:MatAt w ga gi n m F) (hn:0 < n ∨ m = 0) (hn1:n <= 32) (hm1:m <= 32) (hT:Tab w) (hS:∀ a b,a < n -> b < m -> Sz (F a b) s) (h5:szE s n < 549755813888) :
  Calls Tryz.prog 21 #[.slice (some ⟨ga,0,none⟩) n n] w fun e w'=>e = .returned (.tuple #[.int .i64 (rkS n m 0 0 F:Nat),.int .i64 0]) /\ Below w.heap.size w w':=by
 have H0:=hid h
 have HS0:=hid hS
 have HT:=hid hT
 clear h hS hT
 obtain ⟨RK,hRK⟩:∃ r,r = rkS n m 0 0 F:=⟨_,rfl⟩
 rw [<- hRK]
 have HRK:=hid hRK
 clear hRK
 go_enter Tryz.func21,Tryz.ntmps21
 go_wp2_with fail
 refine (sidesN_all w _ n _ F (H0.out.nss' n) oM fun _ _=>oM).mono ?_
 rintro e W1 ⟨r1,c1,b1,rfl,q1,q2,hb1⟩
 obtain rfl:b1 = true:=q1.2 ⟨hn1,fun _ _=>⟨rfl,hm1⟩⟩
 obtain ⟨q4,q3⟩:=q2 rfl
 obtain rfl:m = c1:=by rw [q3]; unfold colsOf; split <;> first | omega | rfl
 obtain rfl:n = r1:=q4.symm
 have KB1:=hid hb1
 clear hb1 q1 q2 q3 hn
 go_wp2_with fail
 refine (widenedN_any W1 ga gi n m 0 F (H0.out.below KB1.out) oM oM).mono ?_
 rintro e W2 ⟨go,g2,rfl,hM,hP,hb2⟩
 have KB2:=hid (bT KB1.out hb2)
 have HM2:=hid (show MatAt W2 go g2 n m F from hM.congr fun a b _ hb=>if_pos ⟨Nat.zero_le _,oM⟩)
 have HP2:=hid (show MatSep w.heap.size go g2 n from ⟨Nat.le_trans KB1.out.size hP.lo,fun i hi=>Nat.le_trans KB1.out.size (hP.los i hi),hP.ne,hP.inj⟩)
 have hTB:1 < w.heap.size:=HT.out.1
 clear hM hP hb2 KB1
 go_wp2
 go_loopw [7,8] (fun j e wr=>∃ (r c:Nat) (g1:Nat -> Nat) (F1:Nat -> Nat -> Cx),j = .int .i64 r /\ e = .int .i64 c /\ c <= m /\ r <= n /\ RK = rkS n (m - c) c r F1 /\ MatAt wr go g1 n m F1 /\ MatSep w.heap.size go g1 n /\ Below w.heap.size w wr /\ (∀ a b,a < n -> b < m -> Sz (F1 a b) (szE s r))) (fun _ e _=>m - (intOf e).toNat)
 case atStart=>exact ⟨0,0,g2,F,rfl,rfl,oM,oM,HRK.out,HM2.out,HP2.out,KB2.out,HS0.out⟩
 case round =>
  clear HM2 HP2 KB2
  obtain ⟨r,c,g1,F1,rfl,rfl,hcn,hrc,hE,hM,hP,hB,hS⟩:=hrel
  have hBr:w.heap.size <= wr.heap.size:=hB.size
  have HE:=hid hE
  have H:=hid hM
  have HP:=hid hP
  have KB:=hid hB
  have HS:=hid hS
  clear hE hM hP hB hS
  by_cases hlt:c < m
  ·by_cases hrn0:¬ r < n
   ·have HRf:=hid (show RK = r by rw [HE.out,show m - c = (m - (c + 1)) + 1 by omega,rkS,if_neg hrn0])
    have d1:¬ ((r:Int) < (n:Int)):=oM
    go_wp2
    go_ret2
    exact ⟨by rw [HRf.out]; rfl,KB.out⟩
   have hrn:r < n:=oM
   have hpv:=hid (pivotN_any wr go g1 n m r c F1 H.out oM oM hlt oM)
   have hsz:szE s (r + 1) <= szE s n:=szE_mono s oM
   have hsz':5 * szE s r + 4 < 549755813888:=by rw [szE] at hsz; omega
   clear hsz
   have hRK1:RK = if pivF F1 c r (n - r) < 0 then rkS n (m - (c + 1)) (c + 1) r F1 else rkS n (m - (c + 1)) (c + 1) (r + 1) (clearF (swp F1 r (pivF F1 c r (n - r)).toNat) r c n):=by
    rw [HE.out,show m - c = (m - (c + 1)) + 1 by omega,rkS,if_pos hrn]
   rcases pivF_cases F1 c (n - r) r with ⟨hp,-⟩ | ⟨p,hcp,hpn,hp,-,-⟩
   ·have HRf:=hid (show RK = rkS n (m - (c + 1)) (c + 1) r F1 by rw [hRK1,if_pos (by rw [hp]; omega)])
    rw [hp] at hpv
    clear hp hRK1
    have d1:(r:Int) < (n:Int):=oM
    go_wp2_with fail
    refine hpv.out.mono ?_
    rintro e W2 ⟨rfl,hb2⟩
    have HB2:=hid (bT KB.out hb2)
    have HM2:=hid (H.out.below hb2)
    clear hb2
    go_wp2
    go_roundw
    case rel=>exact ⟨r,c + 1,g1,F1,rfl,by go_num,oM,oM,HRf.out,HM2.out,HP.out,HB2.out,HS.out⟩
    case measure=>exact mS
   ·rw [hp] at hpv
    have hp0:¬ ((p:Int) < 0):=oM
    have HRf:=hid (show RK = rkS n (m - (c + 1)) (c + 1) (r + 1) (clearF (swp F1 r p) r c n) by rw [hRK1,if_neg (by rw [hp]; omega),hp]; rfl)
    clear hp hRK1
    have hpn':p < n:=oM
    have d1:(r:Int) < (n:Int):=oM
    go_wp2_with fail
    refine hpv.out.mono ?_
    rintro e W2 ⟨rfl,hb2⟩
    have HB2:=hid (bT KB.out hb2)
    have HM2:=hid (H.out.below hb2)
    clear hb2
    have hcut:∃ (g3:Nat -> Nat),MatAt ((W2.setCell ⟨go,r,none⟩ (.slice (some ⟨g1 p,0,none⟩) m m)).setCell ⟨go,p,none⟩ (.slice (some ⟨g1 r,0,none⟩) m m)).drew go g3 n m (swp F1 r p) /\ MatSep w.heap.size go g3 n /\ Below w.heap.size w ((W2.setCell ⟨go,r,none⟩ (.slice (some ⟨g1 p,0,none⟩) m m)).setCell ⟨go,p,none⟩ (.slice (some ⟨g1 r,0,none⟩) m m)).drew:=by
     by_cases hpr:r = p
     ·subst hpr
      refine ⟨g1,?_,HP.out,((HB2.out.setCell HP.out.lo _).setCell HP.out.lo _).drew⟩
      rw [swp_id]
      exact ((HM2.out.setSame HP.out hrn).setSame HP.out hrn).below (W':=World.drew _) (rfB.drew)
     ·obtain ⟨m5,s5,b5⟩:=HM2.out.swap HP.out hrn hpn' hpr
      exact ⟨_,m5.below (W':=World.drew _) (rfB.drew),s5,(HB2.out.trans b5).drew⟩
    obtain ⟨g3,hM3,hP3,hB3⟩:=hcut
    have x3:(W2.setCell ⟨go,r,none⟩ (.slice (some ⟨g1 p,0,none⟩) m m)).cell? ⟨go,p,none⟩ = some (.slice (some ⟨g1 p,0,none⟩) m m):=by
     by_cases hpr:r = p
     ·subst hpr
      exact (HM2.out.setSame HP.out hrn).cell hrn
     ·rw [World.cell?_setCell_other _ _ _ _ (by intro e; injection e with _ e; exact hpr e)]
      exact HM2.out.cell hpn'
    have x1:=HM2.out.cell hrn
    have x2:=HM2.out.cell hpn'
    have y1:=HM2.out.frozen r
    have y2:=HM2.out.frozen p
    have i1:(r:Int) < (n:Int):=oM
    have i2:(p:Int) < (n:Int):=oM
    have i3:(0:Int) <= (r:Int):=oM
    have i4:(0:Int) <= (p:Int):=oM
    have HM3:=hid hM3
    have HP3:=hid hP3
    have HB3:=hid hB3
    clear hM3 hP3 hB3
    go_upto_region 11 with fail
    go_region
    generalize ((W2.setCell ⟨go,r,none⟩ (.slice (some ⟨g1 p,0,none⟩) m m)).setCell ⟨go,p,none⟩ (.slice (some ⟨g1 r,0,none⟩) m m)).drew = W6 at *
    clear x1 x2 y1 y2 x3
    go_wp2_with fail
    refine (clearBelowN_any w.heap.size W6 go g3 n m r c (szE s r) (swp F1 r p) HM3.out HP3.out hTB (HT.out.belowB hTB HB3.out) hrn hlt oM oM (Sz.swp HS.out hrn hpn') hsz').mono ?_
    rintro e W4 ⟨rfl,hm4,hb4⟩
    have HM4:=hid hm4
    have HB4:=hid (HB3.out.trans hb4)
    clear hm4 hb4
    go_wp2
    go_roundw
    case rel=>exact ⟨r + 1,c + 1,g3,_,by go_num,by go_num,oM,oM,HRf.out,HM4.out,HP3.out,HB4.out,Sz.clearF (Sz.swp HS.out hrn hpn') hrn hlt⟩
    case measure=>exact mS
  ·obtain rfl:c = m:=oM
   have HRf:=hid (show RK = r by rw [HE.out,Nat.sub_self,rkS])
   go_wp2
   go_ret2
   exact ⟨by rw [HRf.out]; rfl,KB.out⟩
end Go.Proofs.YtffegeaflohfhaaGreatDoor
