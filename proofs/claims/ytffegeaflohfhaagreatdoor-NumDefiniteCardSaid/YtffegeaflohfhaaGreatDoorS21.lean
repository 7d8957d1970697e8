import Derived.Deep.DeepCutAuto
import Derived.Test.YtffegeaflohfhaaGreatDoorS11
import Derived.Test.YtffegeaflohfhaaGreatDoorS15
import Derived.Test.YtffegeaflohfhaaGreatDoorS20
import Derived.Test.YtffegeaflohfhaaGreatDoorS02
set_option linter.unusedVariables false
set_option linter.unusedSimpArgs false
set_option maxRecDepth 100000
set_option maxHeartbeats 8000000
namespace Go.Proofs.YtffegeaflohfhaaGreatDoor
open Go.RowKit
theorem sidesN_nil (w:World) (A:Option Addr) (c:Nat) :
  Calls Tryz.prog 64 #[.slice A 0 c] w fun e w'=>e = .returned (.tuple #[.int .i64 0,.int .i64 0,.bool true]) /\ Below w.heap.size w w':=by
 go_enter Tryz.func64,Tryz.ntmps64
 go_wp2
 go_ret3
 exact ⟨rfl,Below.refl _ _⟩
theorem sidesN_rect (w:World) (go:Nat) (gi:Nat -> Nat) (n m:Nat) (F:Nat -> Nat -> Cx) (h:MatAt w go gi n m F) (hn:0 < n) (hn1:n <= 32) (hm1:m <= 32) :
  Calls Tryz.prog 64 #[.slice (some ⟨go,0,none⟩) n n] w fun e w'=>e = .returned (.tuple #[.int .i64 n,.int .i64 m,.bool true]) /\ Below w.heap.size w w':=by
 have hc0:=h.cell hn
 have H:=hid h
 clear h
 have hn0:¬ (n = 0):=oM
 go_enter Tryz.func64,Tryz.ntmps64
 go_wp2
 go_loop [12] (fun i=>∃ k:Nat,k <= n /\ i = .int .i64 k) (fun i=>n - (intOf i).toNat)
 case atStart=>exact ⟨0,oM,rfl⟩
 case round =>
  obtain ⟨k,hk,rfl⟩:=hrel
  by_cases hlt:k < n
  ·have hck:=H.out.cell hlt
   go_wp2
   go_round
   case rel=>exact ⟨k + 1,oM,by go_num⟩
   case measure=>exact mS
  ·go_wp2
   have d1:(n:Int) <= 32:=oM
   have d2:(m:Int) <= 32:=oM
   have d3:(0:Int) < (n:Int):=oM
   go_quiet (fail)
   go_wp2
   go_ret3
   exact ⟨rfl,bel⟩
/- Begin of what genMb writes. -/
theorem constant_any (z:Int) (w:World) (hz0:-9223372036854775808 <= z) (hz1:z < 9223372036854775808) :
  Calls Tryz.prog 44 #[.int .i64 z] w (RetNum w (.int z)):=by
 go_enter Tryz.func44,Tryz.ntmps44
 go_upto_region 2 with fail
 obtain ⟨W1,hW1⟩:∃ W1:World,W1 = ((w.alloc (.cells zNum 35)).alloc (.cells zNum 35)):=⟨_,rfl⟩
 unfold zNum at hW1
 rw [<- hW1]
 have B1:Below w.heap.size w W1:=by rw [hW1]; exact bel
 have z1:w.heap.size + 1 < W1.heap.size:=by rw [hW1]; simp
 have X1:W1.heap[w.heap.size + 1]? = some (.cells zNum 35 (0,0)):=by rw [hW1]; exact heap_alloc2_new _ _ _
 have X0:W1.heap[w.heap.size]? = some (.cells zNum 35 (0,0)):=by rw [hW1]; exact heap_alloc2_old _ _ _
 clear hW1
 refine region_last [.val (kIs (.agg #[.slice none 0 0,.bool false,.slice none 0 0,.bool false,.slice none 0 0])),.val (kIs (.iface 35 (.agg #[.slice none 0 0,.bool false,.slice none 0 0,.bool false,.slice none 0 0]))),.val (kIs (.int .i64 z)),.val (kNum (.int z)),.val (kNum (.int z))]
  kR kR kR kR kR ⟨Stab.b (stab_is _),Stab.b (stab_is _),Stab.b (stab_is _),Stab.b (stab_num _),Stab.b (stab_num _),trivial⟩ sP (ol:=_) rfl kR ⟨?_,?_,?_,?_,?_,trivial⟩ ?_
 ·intro ts W hb hB hp K hK
  simp only [fillT,zA,Nat.reduceAdd,sA,sB,sC] at hK ⊢
  refine ⟨?_⟩
  refine wp_load_row _ _ rfl (w.heap.size + 1) rfl _ _ (0,0) _ ((hb.block _ (z1)).trans X1) Tryz.underlying35 rfl kR ?_
  exact hK _ _ rfl rfB
 ·intro ts W hb hB hp
  have h0:ts 0 = _:=hp 0 kR
  intro K hK
  simp only [fillT,zA,Nat.reduceAdd,sA,sB,sC,h0] at hK ⊢
  have HK:=hid hK
  clear hK hp
  refine ⟨?_⟩
  go_simp
  exact HK.out _ _ rfl rfB
 ·intro ts W hb hB hp K hK
  simp only [fillT,zA,Nat.reduceAdd,sA,sB,sC] at hK ⊢
  have HK:=hid hK
  clear hK hp
  refine ⟨?_⟩
  go_simp
  exact HK.out _ _ rfl rfB
 ·intro ts W hb hB hp
  have h2:ts 2 = _:=hp 2 kR
  intro K hK
  simp only [fillT,zA,Nat.reduceAdd,sA,sB,sC,h2] at hK ⊢
  have HK:=hid hK
  clear hK hp
  refine ⟨?_⟩
  go_simp
  refine (int_any z _ hz0 hz1).mono ?_
  rintro e W9 ⟨r9,rfl,hr9,hb9⟩
  exact HK.out _ _ hr9 hb9
 ·intro ts W hb hB hp
  have h1:ts 1 = _:=hp 1 kR
  have h3:IsNum W (ts 3) (.int z):=hp 3 kR
  intro K hK
  simp only [fillT,zA,Nat.reduceAdd,sA,sB,sC,h1] at hK ⊢
  have HK:=hid hK
  clear hK hp
  refine ⟨?_⟩
  refine wp_invoke rfl (T:=35) (xs:=#[.agg #[.slice none 0 0,.bool false,.slice none 0 0,.bool false,.slice none 0 0],ts 3]) rfl inv_Of (by simp [Act.eval]) ?_
  refine (ofN_any _ _ .zero (.int z) W (IsNum.zero W) h3).mono ?_
  rintro e W9 ⟨r9,rfl,hr9,hb9⟩
  exact HK.out _ _ hr9 hb9
 intro ts W2 hb2 hh hap K hK
 have h4:IsNum W2 (ts 4) (.int z):=held_num (hh 4 sP) rfl
 obtain ⟨A,n,c,p,A',n',c',p',A'',n'',c'',ia,ib,id,hq,-⟩:=h4.parts
 have Y0:=(hb2.block w.heap.size oM).trans X0
 have HK:=hid hK
 clear hK
 simp only [fillT,sA,sB,sC,hq]
 rw [hq] at h4
 clear hh hap hq
 refine ⟨?_⟩
 refine wp_store_row _ _ _ rfl w.heap.size _ rfl rfl _ _ Y0 kR rfl (by simp [Value.oneCell']) (HK.out _ _ ?_)
 have hput:=putAt_setRow (cs:=#[.slice A n c,.bool p,.slice A' n' c',.bool p',.slice A'' n'' c'']) Y0
 have hext:=hput.ext Y0 dE
 have B2:=hput.below (bT B1 hb2) lR
 generalize W2.setRow w.heap.size #[.slice A n c,.bool p,.slice A' n' c',.bool p',.slice A'' n'' c''] = W3 at *
 have h5:=h4.ext hext
 obtain ⟨f0,f1,f2,f3,f4,y0,y1,y2,y3,y4⟩:=bx5 hput.here
 clear hput hext h4 Y0 HK
 go_wp2
 refine bodyPost_ret (v:=.agg #[.slice A n c,.bool p,.slice A' n' c',.bool p',.slice A'' n'' c'']) (by simp [results,Tryz.results44,go_sem,f0,f1,f2,f3,f4]) rfl ?_
 exact ⟨_,rfl,h5,B2⟩
def RetMat (w:World) (n m:Nat) (F:Nat -> Nat -> Cx) (e:Ending) (w':World):Prop:=∃ go gi,e = .returned (.slice (some ⟨go,0,none⟩) n n) /\ MatAt w' go gi n m F /\ MatSep w.heap.size go gi n /\ Below w.heap.size w w'
def wideF (F:Nat -> Nat -> Cx) (m:Nat):Nat -> Nat -> Cx:=fun i=>cpyn (F i) (fun _=>.zero) 0 m
theorem widenedN_any (w:World) (go:Nat) (gi:Nat -> Nat) (n m p:Nat) (F:Nat -> Nat -> Cx) (h:MatAt w go gi n m F) (hn:n <= 1073741824) (hm:m + p <= 1073741824) :
  Calls Tryz.prog 45 #[.slice (some ⟨go,0,none⟩) n n,.int .i64 p] w (RetMat w n (m + p) (wideF F m)):=by
 have hgo:=h.lt
 have H:=hid h
 clear h
 obtain ⟨W1,hr1,hb1,hs1,hP⟩:=make_mat n (m + p) oM w (wideF F m) gi
 have HB:=hid hb1
 have HP:=hid hP
 have HS:=hid hs1
 clear hb1 hP hs1
 go_enter Tryz.func45,Tryz.ntmps45
 go_wp2
 clear hr1
 go_loopw [13] (fun i wr=>∃ (k:Nat) (g2:Nat -> Nat),i = .int .i64 k /\ k <= n /\ Below w.heap.size w wr /\ PMat w.heap.size wr w.heap.size g2 n (m + p) k (wideF F m)) (fun i _=>n - (intOf i).toNat)
 case atStart=>exact ⟨0,gi,rfl,oM,HB.out,HP.out⟩
 case round =>
  obtain ⟨k,g2,rfl,hk,hB,hP⟩:=hrel
  have KB:=hid hB
  have KP:=hid hP
  by_cases hlt:k < n
  ·have hck:wr.cell? ⟨go,k,none⟩ = some (.slice (some ⟨gi k,0,none⟩) m m):=(hB.cell hgo).trans (H.out.cell hlt)
   have hgk:=(H.out.row hlt).lt
   obtain ⟨W2,hr2,hb2,hs2,hN2⟩:=make_row (m + p) oM wr
   have P2:=hP.below hb2
   have f1:=P2.cell_nil (Nat.le_refl k) hlt
   have f2:=P2.frozen k
   have hP':PMat w.heap.size wr w.heap.size g2 n (m + p) k (upf (wideF F m) k (fun _=>.zero)):=hP.congr fun i j hi _=>by rw [upf_other _ _ oM]
   obtain ⟨P3,hB2,hE2⟩:=hP'.row hb2 lR (by rw [upf_same]; exact hN2) hlt
   obtain ⟨W2s,hW2s⟩:∃ W2s,W2s = W2.setCell ⟨w.heap.size,k,none⟩ (.slice (some ⟨wr.heap.size,0,none⟩) (m + p) (m + p)):=⟨_,rfl⟩
   have N1:NBlk W2s (gi k) m (F k):=by
    rw [hW2s]
    exact ((((H.out.row hlt).below hB).below hb2)).but hB2 hE2 oM
   rw [<- hW2s] at P3 hB2 hE2
   have N2:NBlk W2s wr.heap.size (m + p) (fun _=>.zero):=by
    have:=P3.rows k oM
    rwa [upf_same,upf_same] at this
   obtain ⟨W3,hr3,hB3,hE3,hN3⟩:=copy_num W2s 3 wr.heap.size (gi k) (m + p) m (m + p) (m + p) m 0 _ _ N1 N2 oM oM
   have P4:PMat w.heap.size W3 w.heap.size (upf g2 k wr.heap.size) n (m + p) (k + 1) (wideF F m):=by
    have:=P3.set (i:=k) oM (W':=W3) (by rw [upf_same]; exact hB3) hE3 (by rw [upf_same]; exact hN3)
    refine this.congr fun i j _ _=>?_
    by_cases hik:i = k
    ·rw [hik,upf_same]; rfl
    ·rw [upf_other _ _ hik,upf_other _ _ hik]
   have B4:Below w.heap.size w W3:=hB3.below (hB2.below (bT hB hb2) lR) (by have:=hB.size; omega)
   have f3:W2s.cell? ⟨w.heap.size,k,none⟩ = some (.slice (some ⟨wr.heap.size,0,none⟩) (m + p) (m + p)):=by
    have:=P3.cell (i:=k) oM
    rwa [upf_same] at this
   have K4:=hid P4
   have L4:=hid B4
   simp only [Nat.mul_zero] at hr3
   have hr2':(Instr.makeSlice 46 (.int .i64 ((m:Int) + (p:Int))) (.int .i64 ((m:Int) + (p:Int)))).run Tryz.prog wr = .ok (.slice (some ⟨wr.heap.size,0,none⟩) (m + p) (m + p)) W2:=by
    have:=hr2
    simpa using this
   rw [hW2s] at hr3
   clear hr2 hW2s f3 N1 N2 P3 hB2 hE2 hB3 hE3 hN3 P4 B4 P2 hP' hP hB hb2 hs2 hN2
   go_wp2
   go_roundw
   case rel=>exact ⟨k + 1,upf g2 k wr.heap.size,by go_num,oM,L4.out,K4.out⟩
   case measure=>exact mS
  ·obtain rfl:k = n:=oM
   obtain ⟨h1,h2⟩:=hP.done
   clear hB hP
   go_wp2
   go_ret
   exact ⟨_,_,rfl,h1,h2,KB.out⟩
def pivF (F:Nat -> Nat -> Cx) (c:Nat):Nat -> Nat -> Int
 | _,0=>-1
 | i,d + 1=>if F i c = .zero then pivF F c (i + 1) d else i
theorem pivotN_any (w:World) (go:Nat) (gi:Nat -> Nat) (n m r c:Nat) (F:Nat -> Nat -> Cx) (h:MatAt w go gi n m F) (hn:n <= 1073741824) (hr:r <= n) (hc:c < m) (hm:m <= 1073741824) :
  Calls Tryz.prog 65 #[.slice (some ⟨go,0,none⟩) n n,.int .i64 r,.int .i64 c] w fun e w'=>e = .returned (.int .i64 (pivF F c r (n - r))) /\ Below w.heap.size w w':=by
 have H0:=hid h
 clear h
 go_enter Tryz.func65,Tryz.ntmps65
 go_wp2
 go_loopw [7] (fun i wr=>∃ k:Nat,i = .int .i64 k /\ r <= k /\ k <= n /\ pivF F c r (n - r) = pivF F c k (n - k) /\ Below w.heap.size w wr) (fun i _=>n - (intOf i).toNat)
 case atStart=>exact ⟨r,rfl,oM,oM,rfl,Below.refl _ _⟩
 case round =>
  obtain ⟨k,rfl,hrk,hk,he,hB⟩:=hrel
  have HE:=hid he
  have KB:=hid hB
  have H:=hid (H0.out.below hB)
  clear he hB
  by_cases hlt:k < n
  ·go_upto_region 4 with fail
   refine region_lin [.val (kIs (.slice (some ⟨go,0,none⟩) n n)),.val (kIs (.int .i64 (k:Int))),.val (kIs (.pointer (some ⟨go,k,none⟩))),.val (kIs (.slice (some ⟨gi k,0,none⟩) m m)),.val (kIs (.int .i64 (c:Int))),.val (kIs (.pointer (some ⟨(gi k),5 * c,none⟩))),.val (kNum (F k c)),.val (kIfc (F k c)),.val (kIs (.bool (!decide (F k c = .zero))))]
    kR kR kR kR kR ⟨Stab.b (stab_is _),Stab.b (stab_is _),Stab.b (stab_is _),Stab.b (stab_is _),Stab.b (stab_is _),Stab.b (stab_is _),Stab.b (stab_num _),Stab.b (stab_ifc _),Stab.b (stab_is _),trivial⟩ sP ⟨?_,?_,?_,?_,?_,?_,?_,?_,?_,trivial⟩ ?_
   ·intro ts W hb hB hp K hK
    simp only [fillT,zA,Nat.reduceAdd,sA,sB,sC] at hK ⊢
    have HK:=hid hK
    clear hK hp
    refine ⟨?_⟩
    go_simp
    exact HK.out _ _ rfl rfB
   ·intro ts W hb hB hp K hK
    simp only [fillT,zA,Nat.reduceAdd,sA,sB,sC] at hK ⊢
    have HK:=hid hK
    clear hK hp
    refine ⟨?_⟩
    go_simp
    exact HK.out _ _ rfl rfB
   ·intro ts W hb hB hp
    have h0:ts 0 = _:=hp 0 kR
    have h1:ts 1 = _:=hp 1 kR
    intro K hK
    simp only [fillT,zA,Nat.reduceAdd,sA,sB,sC,h0,h1] at hK ⊢
    have HK:=hid hK
    clear hK hp
    refine ⟨?_⟩
    go_simp
    exact HK.out _ _ rfl rfB
   ·intro ts W hb hB hp
    have h2:ts 2 = _:=hp 2 kR
    intro K hK
    simp only [fillT,zA,Nat.reduceAdd,sA,sB,sC,h2] at hK ⊢
    have HK:=hid hK
    clear hK hp
    have hcell:=(H.out.below hb).cell hlt
    refine ⟨?_⟩
    go_simp
    exact HK.out _ _ rfl rfB
   ·intro ts W hb hB hp K hK
    simp only [fillT,zA,Nat.reduceAdd,sA,sB,sC] at hK ⊢
    have HK:=hid hK
    clear hK hp
    refine ⟨?_⟩
    go_simp
    exact HK.out _ _ rfl rfB
   ·intro ts W hb hB hp
    have h3:ts 3 = _:=hp 3 kR
    have h4:ts 4 = _:=hp 4 kR
    intro K hK
    simp only [fillT,zA,Nat.reduceAdd,sA,sB,sC,h3,h4] at hK ⊢
    have HK:=hid hK
    clear hK hp
    refine ⟨?_⟩
    go_simp
    exact HK.out _ _ (by simp [kIs,Nat.mul_comm]) rfB
   ·intro ts W hb hB hp
    have h5:ts 5 = _:=hp 5 kR
    intro K hK
    simp only [fillT,zA,Nat.reduceAdd,sA,sB,sC,h5] at hK ⊢
    have HK:=hid hK
    clear hK hp
    refine ⟨?_⟩
    refine wp_load_elem rfl rfl ((H.out.row hlt).below hb) hc (fun v hv=>HK.out _ _ (hv) rfB)
   ·intro ts W hb hB hp
    have h6:IsNum W (ts 6) (F k c):=hp 6 kR
    intro K hK
    simp only [fillT,zA,Nat.reduceAdd,sA,sB,sC] at hK ⊢
    have HK:=hid hK
    clear hK hp
    refine ⟨?_⟩
    go_simp
    exact HK.out _ _ ⟨_,rfl,h6⟩ rfB
   ·intro ts W hb hB hp
    have h7:=hp 7 kR
    intro K hK
    simp only [fillT,zA,Nat.reduceAdd,sA,sB,sC] at hK ⊢
    have HK:=hid hK
    clear hK hp
    obtain ⟨u7,e7,n7⟩:=h7
    refine ⟨?_⟩
    refine wp_invoke rfl (T:=35) (v:=u7) (xs:=#[u7]) e7 inv_Clear (by simp [Act.eval]) ?_
    refine (clear_any u7 (F k c) W n7).mono ?_
    rintro e W9 ⟨rfl,hb9⟩
    exact HK.out _ _ rfl hb9
   intro ts W2 hb2 hh hap
   have e8:=held_is (hh 8 sP) rfl
   simp only [fillT,zA,Nat.reduceAdd,sA,sB,sC,e8]
   clear hh hap e8
   generalize ts 0 = u0_W2 at *
   generalize ts 1 = u1_W2 at *
   generalize ts 2 = u2_W2 at *
   generalize ts 3 = u3_W2 at *
   generalize ts 4 = u4_W2 at *
   generalize ts 5 = u5_W2 at *
   generalize ts 6 = u6_W2 at *
   generalize ts 7 = u7_W2 at *
   clear ts
   have KB2:=hid (bT KB.out hb2)
   clear hb2
   by_cases hz:F k c = .zero
   ·have hd:(!decide (F k c = .zero)) = false:=by simp [hz]
    rw [hd]
    have HE2:=hid (show pivF F c r (n - r) = pivF F c (k + 1) (n - (k + 1)) by rw [HE.out,show n - k = (n - (k + 1)) + 1 by omega,pivF,if_pos hz])
    clear hz hd
    go_wp2
    go_roundw
    case rel=>exact ⟨k + 1,by go_num,oM,oM,HE2.out,KB2.out⟩
    case measure=>exact mS
   ·have hd:(!decide (F k c = .zero)) = true:=by simp [hz]
    rw [hd]
    have h1:=hid (show pivF F c r (n - r) = (k:Int) by rw [HE.out,show n - k = (n - (k + 1)) + 1 by omega,pivF,if_neg hz])
    clear hz hd
    go_wp2
    go_ret
    exact ⟨by rw [h1.out]; rfl,KB2.out⟩
  ·obtain rfl:k = n:=oM
   have h1:=hid (show pivF F c r (k - r) = -1 by rw [HE.out]; simp [pivF])
   go_wp2
   go_ret
   exact ⟨by rw [h1.out]; rfl,KB.out⟩
end Go.Proofs.YtffegeaflohfhaaGreatDoor
