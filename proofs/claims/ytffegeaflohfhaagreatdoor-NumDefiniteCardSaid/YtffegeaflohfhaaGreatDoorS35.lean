import Derived.Deep.LoopGhost
import Derived.Laws.AppendOwn
import Derived.OwnWalk
import Derived.Test.YtffegeaflohfhaaGreatDoorS24
import Derived.Test.YtffegeaflohfhaaGreatDoorS25
import Derived.Test.YtffegeaflohfhaaGreatDoorS32
import Derived.Test.YtffegeaflohfhaaGreatDoorS34
import Derived.Test.YtffegeaflohfhaaGreatDoorS02
set_option linter.unusedVariables false
set_option linter.unusedSimpArgs false
set_option maxRecDepth 100000
set_option maxHeartbeats 8000000
namespace Go.Proofs.YtffegeaflohfhaaGreatDoor
open Go.RowKit
def rdig (x m:Nat):List Value:=(List.range m).map fun j=>.int .u8 ((48 + x / 10 ^ j % 10:Nat):Int)
theorem rdig_succ (x m:Nat):rdig x (m + 1) = rdig x m ++ [.int .u8 ((48 + x / 10 ^ m % 10:Nat):Int)]:=by
 simp [rdig,List.range_succ]
theorem nd_gt {x m:Nat} (h0:0 < x):m < nd x ↔ 0 < x / 10 ^ m:=by
 obtain ⟨h1,h2,h3⟩:=nd_spec x h0
 constructor
 ·intro h
  have:=Nat.pow_le_pow_right (n:=10) oM (show m <= nd x - 1 by omega)
  exact (Nat.le_div_iff_mul_le (Nat.pow_pos oM)).2 oM
 ·intro h
  rcases Nat.lt_or_ge m (nd x) with h4 | h4
  ·exact h4
  ·have:=Nat.pow_le_pow_right (n:=10) oM h4
   rw [Nat.div_eq_of_lt oM] at h
   omega
theorem more_digits (x j i:Nat) (h0:0 < x) (hi:i < 9):(0 < x / 10 ^ (9 * j) % 1000000000 / 10 ^ i ∨ 0 < x / 10 ^ (9 * (j + 1))) ↔ 9 * j + i < nd x:=by
 rw [nd_gt h0]
 have e:x / 10 ^ (9 * j + i) = x / 10 ^ (9 * j) / 10 ^ i:=by rw [Nat.pow_add,Nat.div_div_eq_div_mul]
 rw [e,<- next_round]
 generalize x / 10 ^ (9 * j) = y
 have h1:0 < 10 ^ i:=Nat.pow_pos oM
 have h2:(10:Nat) ^ i <= 10 ^ 8:=Nat.pow_le_pow_right oM oM
 rw [Nat.div_pos_iff,Nat.div_pos_iff,Nat.div_pos_iff]
 constructor
 ·rintro (⟨_,h3⟩ | ⟨_,h3⟩)
  ·exact ⟨h1,Nat.le_trans h3 (Nat.mod_le _ _)⟩
  ·exact ⟨h1,oM⟩
 ·rintro ⟨_,h3⟩
  by_cases h4:1000000000 <= y
  ·exact .inr ⟨oM,h4⟩
  ·exact .inl ⟨h1,by rw [Nat.mod_eq_of_lt oM]; exact h3⟩
def RowP (w:World) (g n:Nat) (f:Nat -> Nat):Prop :=
 ∃ cs:Array Value,w.heap[g]? = some (.cells cs 5 (0,0)) /\ n <= cs.size /\ ∀ j,j < n -> cs[j]? = some (.int .u8 (f j:Int))
section
variable {w w':World} {g n:Nat} {f:Nat -> Nat}
theorem RowP.cell (h:RowP w g n f) {j:Nat} (hj:j < n):w.cell? ⟨g,j,none⟩ = some (.int .u8 (f j:Int)):=by
 obtain ⟨cs,h,hs,hc⟩:=h
 rw [cell_of_row w g j cs _ (0,0) h]
 exact hc j hj
theorem RowP.frozen (h:RowP w g n f) (j:Nat):w.frozen? ⟨g,j,none⟩ = false:=by
 obtain ⟨cs,h,_⟩:=h
 simp [World.frozen?,h]
theorem RowP.set_ (h:RowP w g n f) {i:Nat} (hi:i < n) (x:Nat):RowP (w.setCell ⟨g,i,none⟩ (.int .u8 (x:Int))) g n (upd f i x):=by
 obtain ⟨cs,h,hs,hc⟩:=h
 refine ⟨cs.setIfInBounds i (.int .u8 (x:Int)),?_,by simp [hs],fun j hj=>?_⟩
 ·simp [World.setCell,Array.getElem?_modify,h]
 ·rw [Array.getElem?_setIfInBounds]
  by_cases hij:i = j
  ·subst hij
   rw [if_pos rfl,if_pos oM,upd_same]
  ·rw [if_neg hij,upd_other f x (fun e=>hij e.symm)]
   exact hc j hj
theorem RowP.congr {f':Nat -> Nat} (h:RowP w g n f) (he:∀ j,j < n -> f j = f' j):RowP w g n f':=by
 obtain ⟨cs,h,hs,hc⟩:=h
 exact ⟨cs,h,hs,fun j hj=>by rw [<- he j hj]; exact hc j hj⟩
end
theorem ownsRow_rowP {w:World} {B:Nat} {v:Value} {m x:Nat} (h:w.ownsRow B 5 1 v m (rdig x m)) (hm:0 < m) :
  ∃ g cap,v = .slice (some ⟨g,0,none⟩) m cap /\ m <= cap /\ B <= g /\ RowP w g m (fun j=>48 + x / 10 ^ j % 10):=by
 obtain ⟨h1,⟨rfl,h2⟩ | ⟨g,cap,cur,rfl,hB,hg,hc,-,hs,ht⟩⟩:=h
 ·omega
 ·refine ⟨g,cap,rfl,hc,hB,cur,hg,oM,fun j hj=>?_⟩
  have h3:(cur.toList.take (m * 1))[j]? = (rdig x m)[j]?:=by rw [ht]
  rw [List.getElem?_take,if_pos oM] at h3
  rw [<- Array.getElem?_toList,h3]
  simp [rdig,hj]
theorem NatRow.grown {w w':World} {v o:Value} {B x m:Nat} {xs:List Value} (h:NatRow w v x) (ho:w.ownsRow B 5 1 o m xs) (hg:w.grownBy w' o.ownBlock):NatRow w' v x:=by
 obtain ⟨g,n,c,f,rfl,h1,h2,h3,h4⟩:=h
 refine ⟨g,n,c,f,rfl,h1.grown hg ?_,h2,h3,h4⟩
 intro e
 obtain ⟨-,⟨rfl,-⟩ | ⟨g',cap,cur,rfl,hB,hg',-⟩⟩:=ho
 ·simp [Value.ownBlock] at e
 ·simp [Value.ownBlock] at e
  subst e
  obtain ⟨cs,hcs,-⟩:=h1
  rw [hcs] at hg'
  simp at hg'
theorem NatRow.alloc {w:World} {v:Value} {x:Nat} (h:NatRow w v x) (o:Obj):NatRow (w.alloc o) v x:=by
 obtain ⟨g,n,c,f,rfl,h1,h2,h3,h4⟩:=h
 exact ⟨g,n,c,f,rfl,h1.below (below_alloc w o) h1.lt,h2,h3,h4⟩
theorem NatRow.len {w:World} {v:Value} {x:Nat} (h:NatRow w v x):∃ A c,v = .slice A (wl x) c:=by
 obtain ⟨A,n,c,rfl,rfl⟩:=h.nat.ex
 exact ⟨A,c,rfl⟩
def revd (f:Nat -> Nat) (n k:Nat) (j:Nat):Nat:=if j < k ∨ n <= j + k then f (n - 1 - j) else f j
theorem revd_step {f:Nat -> Nat} {n k:Nat} (h:k + 1 + k < n) (j:Nat) (hj:j < n) :
  upd (upd (revd f n k) k (revd f n k (n - 1 - k))) (n - 1 - k) (revd f n k k) j = revd f n (k + 1) j:=by
 have e1:revd f n k k = f k:=by unfold revd; rw [if_neg oM]
 have e2:revd f n k (n - 1 - k) = f (n - 1 - k):=by unfold revd; rw [if_neg oM]
 rw [e1,e2]
 by_cases h1:j = n - 1 - k
 ·subst h1
  rw [upd_same]
  unfold revd
  rw [if_pos oM]
  congr 1; omega
 ·rw [upd_other _ _ h1]
  by_cases h2:j = k
  ·subst h2
   rw [upd_same]
   unfold revd
   rw [if_pos oM]
  ·rw [upd_other _ _ h2]
   unfold revd
   by_cases h3:j < k ∨ n <= j + k
   ·rw [if_pos h3,if_pos oM]
   ·rw [if_neg h3,if_neg oM]
theorem revd_all {f:Nat -> Nat} {n k:Nat} (h:n <= k + k + 1) (j:Nat) (hj:j < n):revd f n k j = f (n - 1 - j):=by
 unfold revd
 split
 ·rfl
 ·congr 1; omega
theorem info_u8z':(Tryz.prog.info? 5).map (fun i=>(i.zero,i.size,i.bytes)) = some (some (.int .u8 0),1,1):=kR
theorem rNatText_zero (v:Value) (w:World) (h:IsNat w v 0) :
  Calls Tryz.prog 149 #[v] w fun e w'=>e = .returned (.string (strOfNums (dec 0))) /\ Below w.heap.size w w':=by
 obtain ⟨A,n,c,rfl,hn⟩:=h.ex
 rw [wl_zero] at hn
 subst hn
 have hx:strOfNums (dec 0) = { data:=#[48] }:=dK
 rw [hx]
 clear hx h
 go_enter Tryz.func149,Tryz.ntmps149
 go_wp2
 go_ret
 exact ⟨rfl,Below.refl _ _⟩
theorem ownsRow_below {w w':World} {B e s n:Nat} {v:Value} {xs:List Value} (h:w.ownsRow B e s v n xs) (hb:Below w.heap.size w w'):w'.ownsRow B e s v n xs:=by
 have hl:=h.lt
 obtain ⟨h1,⟨rfl,h2⟩ | ⟨g,cap,cur,rfl,hB,hg,hr⟩⟩:=h
 ·exact ⟨h1,.inl ⟨rfl,h2⟩⟩
 ·exact ⟨h1,.inr ⟨g,cap,cur,rfl,hB,(hb.block g (hl g rfl).2).trans hg,hr⟩⟩
theorem own_step {w1:World} {B x m c:Nat} {v':Value} (h:w1.ownsRow B 5 1 v' (m + 1) (rdig x m ++ [.int .u8 (c:Int)])) (hc:c = 48 + x / 10 ^ m % 10):w1.ownsRow B 5 1 v' (m + 1) (rdig x (m + 1)):=by
 rw [rdig_succ,<- hc]; exact h
theorem rNatText_pos (v:Value) (x:Nat) (w:World) (h:IsNat w v x) (h0:0 < x) (hn:wl x <= 1099511627776) :
  Calls Tryz.prog 149 #[v] w fun e w'=>e = .returned (.string (strOfNums (dec x))) /\ Below w.heap.size w w':=by
 have HV:=hid h
 have hnd:=nd_wl x
 have hN:nd x <= 20000000000000:=oM
 have hN1:=(nd_spec x h0).1
 have HM:=hid (fun j i=>more_digits x j i h0)
 have HG:=hid (fun m=>nd_gt (m:=m) h0)
 have HWL:=hid (fun j=>show wl (x / 10 ^ (9 * j)) <= 1099511627776 from Nat.le_trans (wl_mono (Nat.div_le_self _ _)) hn)
 have HDE:=hid (show dec x = (List.range (nd x)).map fun i=>((48 + x / 10 ^ (nd x - 1 - i) % 10:Nat):Int) from rfl)
 obtain ⟨dx,hdx⟩:∃ l,l = dec x:=⟨_,rfl⟩
 rw [<- hdx] at HDE
 have HDX:=hid hdx
 have hwl0:wl x ≠ 0:=fun e=>by have:=wl_eq_zero.1 e; omega
 obtain ⟨A0,n0,c0,rfl,hn0⟩:=h.ex
 have hne0:((n0:Int) == 0) = false:=sO
 clear h hn hnd hdx hn0 hwl0
 generalize nd x = N at *
 obtain ⟨i0,hi,hz0,hz1,hz2⟩:=info_parts info_u8z'
 go_enter Tryz.func149,Tryz.ntmps149
 go_wp2
 go_loopg [0,3] x (fun k va vo wr=>∃ j m:Nat,k = x / 10 ^ (9 * j) /\ IsNat wr va k /\ wr.ownsRow w.heap.size 5 1 vo m (rdig x m) /\ (0 < k -> m = 9 * j) /\ (k = 0 -> m = N) /\ m <= N /\ Below w.heap.size w wr)
 case atStart=>exact ⟨0,0,sP,HV.out,World.ownsRow_nil _ _ _ _,fun _=>rfl,fun h=>oM,oM,Below.refl _ _⟩
 case round =>
  obtain ⟨j,m,hk,hv,ho,hm1,hm2,hmN,hb⟩:=hrel
  have HK:=hid hk
  have HB:=hid hb
  rcases Nat.eq_zero_or_pos gk with hk0 | hk0
  ·subst hk0
   obtain rfl:=hm2 rfl
   obtain ⟨g,cap,rfl,hcap,hg,hrow⟩:=ownsRow_rowP ho oM
   obtain ⟨A,c,rfl,hc,hw⟩:=hv
   rw [wl_zero] at *
   have HRO:=hid hrow
   clear hw hrow ho hk hm1 hm2 hb
   have hw1:IntKind.i64.wrap ((m:Int) - 1) = ((m - 1:Nat):Int):=by rw [IntKind.wrap_i64]; omega
   go_wp2_with fail
   go_loopw [7,8] (fun iv jv wx=>∃ k l:Nat,iv = .int .i64 (k:Int) /\ jv = .int .i64 (l:Int) /\ l + k + 1 = m /\ k <= l + 1 /\ RowP wx g m (revd (fun j=>48 + x / 10 ^ j % 10) m k) /\ Below w.heap.size w wx) (fun iv _ _=>m - (intOf iv).toNat)
   case atStart=>exact ⟨0,m - 1,rfl,by go_num,oM,oM,HRO.out.congr fun j hj=>by unfold revd; rw [if_neg oM],HB.out⟩
   case round =>
    obtain ⟨k,l,rfl,rfl,hkl,hle,hrx,hbx⟩:=hrel
    have hkm:k < m:=oM
    have hlm:l < m:=oM
    have HKL:=hid hkl
    have HRX:=hid hrx
    have HBX:=hid hbx
    clear hkl hrx hbx
    by_cases hlt:k < l
    ·have hd:decide ((k:Int) < (l:Int)) = true:=sO
     have c1:=HRX.out.cell hkm
     have c2:=HRX.out.cell hlm
     have f1:=HRX.out.frozen k
     have f2:=HRX.out.frozen l
     have hne:k ≠ l:=oM
     have e1:l = m - 1 - k:=by have:=HKL.out; omega
     have R1:=((HRX.out.set_ hkm (revd (fun j=>48 + x / 10 ^ j % 10) m k l)).set_ hlm (revd (fun j=>48 + x / 10 ^ j % 10) m k k)).congr (f':=revd (fun j=>48 + x / 10 ^ j % 10) m (k + 1)) (fun j hj=>by
      rw [e1]
      exact revd_step (by have:=HKL.out; omega) j hj)
     have HR1:=hid R1
     clear e1 R1
     generalize revd (fun j=>48 + x / 10 ^ j % 10) m k l = vl at *
     generalize revd (fun j=>48 + x / 10 ^ j % 10) m k k = vk at *
     go_wp2_with fail
     go_region
     all_goals
      go_wp2
      go_roundw
      case rel=>exact ⟨k + 1,l - 1,by go_num,by go_num,by have:=HKL.out; omega,oM,HR1.out,by have hbx:=HBX.out; exact bel⟩
      case measure=>exact mS
    ·have hd:decide ((k:Int) < (l:Int)) = false:=sO
     have hcells:∀ i,i < m -> wr.cell? ⟨g,0 + i,none⟩ = some (.int .u8 (dx.getD i 0)):=fun i hi=>by
      rw [Nat.zero_add,HRX.out.cell (j:=i) hi,revd_all (by have:=HKL.out; omega) i hi,HDE.out]
      simp [List.getD,hi]
     have hlen:dx.length = m:=by rw [HDE.out]; simp
     have hcv:=run_convert_bytes_arg (P:=Tryz.prog) wr 179 5 und_bytes und_u8 g 0 m cap dx hlen hcells 9 und_str
     clear hcells hlen
     go_wp2
     go_ret
     exact ⟨by rw [<- HDX.out]; rfl,HBX.out⟩
  ·obtain rfl:=hm1 hk0
   have HD:=hid (natDigit_row _ gk 1000000000 wr hv oM oM (by rw [hk]; exact HWL.out j))
   have hq1:gk / 1000000000 = x / 10 ^ (9 * (j + 1)):=by rw [hk]; exact next_round x j
   have hlt:gk / 1000000000 < gk:=Nat.div_lt_self hk0 oM
   have HLT:=hid hlt
   have HO:=hid ho
   obtain ⟨A,n1,c1,rfl,hn1⟩:=hv.ex
   have hn2:0 < n1:=by rw [hn1]; exact Nat.pos_of_ne_zero fun e=>by have:=wl_eq_zero.1 e; omega
   have HM2:=hid (fun i (hi:i < 9)=>by have:=HM.out j i hi; rw [<- hk,<- hq1] at this; exact this)
   have HDS:=hid (fun i (hi:i < 9)=>by have:=digit_step x j i hi; rw [<- hk] at this; exact this)
   have HQ1:=hid hq1
   clear hv ho hk hm1 hm2 hb hn1 hlt hq1
   generalize gk / 1000000000 = kq at *
   go_wp2_with fail
   refine HD.out.mono ?_
   rintro e w2 ⟨q,rfl,hq,hb2⟩
   obtain ⟨Aq,cq,rfl⟩:=hq.len
   have hlq:0 < wl kq ↔ 0 < kq:=by
    have:=wl_eq_zero (x:=kq)
    omega
   have HLQ:=hid hlq
   have HQ:=hid hq
   have HB2:=hid hb2
   clear hlq hq hb2
   generalize wl kq = lq at *
   go_wp2_with fail
   go_loopw [3,5,6] (fun vo rv iv wx=>∃ i:Nat,i <= 9 /\ iv = .int .i64 (i:Int) /\ rv = .int .u32 ((gk % 1000000000 / 10 ^ i:Nat):Int) /\ 9 * j + i <= N /\ wx.ownsRow w.heap.size 5 1 vo (9 * j + i) (rdig x (9 * j + i)) /\ NatRow wx (.slice Aq lq cq) kq /\ Below w.heap.size w wx) (fun _ _ iv _=>9 - (intOf iv).toNat)
   case atStart=>exact ⟨0,oM,rfl,sP,oM,ownsRow_below HO.out HB2.out,HQ.out,bT HB.out HB2.out⟩
   case round =>
    obtain ⟨i,hi9,rfl,rfl,hiN,hox,hqx,hbx⟩:=hrel
    have HOX:=hid hox
    have HQX:=hid hqx
    have HBX:=hid hbx
    have hR:gk % 1000000000 / 10 ^ i < 1000000000:=Nat.lt_of_le_of_lt (Nat.div_le_self _ _) (Nat.mod_lt _ oM)
    by_cases hmore:i < 9 /\ 9 * j + i < N
    ·obtain ⟨hi3,hlt3⟩:=hmore
     have hm:=(HM2.out i hi3).2 hlt3
     have HDS2:=hid (HDS.out i hi3)
     have hR2:gk % 1000000000 / 10 ^ i / 10 = gk % 1000000000 / 10 ^ (i + 1):=by rw [Nat.div_div_eq_div_mul,Nat.pow_succ]
     have HR2:=hid hR2
     have hbase:=hbx.size
     clear hox hqx hbx hR2
     generalize gk % 1000000000 / 10 ^ i = R at *
     obtain ⟨c8,hc8,hc9⟩:∃ c:Nat,IntKind.u8.wrap (48 + (R:Int) % 10) = (c:Int) /\ c = 48 + x / 10 ^ (9 * j + i) % 10:=⟨48 + R % 10,wrap8 R,by rw [HDS2.out]⟩
     have HC9:=hid hc9
     clear hc9
     rcases Nat.eq_zero_or_pos R with hR0 | hR0
     ·have hl:0 < lq:=HLQ.out.2 oM
      subst hR0
      obtain rfl:c8 = 48:=by
       have e:IntKind.u8.wrap (48 + ((0:Nat):Int) % 10) = 48:=dK
       rw [e] at hc8
       omega
      clear hm hc8
      go_wp2_with (first | (at_builtin; refine wpList_append_own _ rfl _ _ 179 rfl w.heap.size 5 i0 (.int .u8 0) 1 1 Tryz.underlying179 hi hz0 hz1 hz2 rfl dE _ _ _ rfl (HOX.out.alloc _) ⟨wr.heap.size,0,none⟩ 1 1 [.int .u8 48] rfl rfl (fun j u hj=>by match j,hj with | 0,hj=>(simp at hj; subst hj; simp [Addr.add])) (by intro u hu; simp at hu; subst hu; rfl) (by unfold maxLen; omega) oM sO ?_) | go_in)
      intro v' w1 hown' hgrow _
      have E1:=hid (own_step (c:=48) hown' HC9.out)
      have E2:=hid (NatRow.grown (HQX.out.alloc _) (HOX.out.alloc _) hgrow)
      have E3:=hid ((HBX.out.alloc HBX.out.size _).grown hgrow sO (fun k hk=>(HOX.out.lt k hk).1))
      clear hown' hgrow
      go_wp2
      go_roundw
      case rel=>exact ⟨i + 1,oM,by go_num,by rw [<- HR2.out]; go_num,oM,E1.out,E2.out,E3.out⟩
      case measure=>exact mS
     ·have hd:¬ R = 0:=oM
      clear hm
      go_wp2_with (first | (at_builtin; refine wpList_append_own _ rfl _ _ 179 rfl w.heap.size 5 i0 (.int .u8 0) 1 1 Tryz.underlying179 hi hz0 hz1 hz2 rfl dE _ _ _ rfl (HOX.out.alloc _) ⟨wr.heap.size,0,none⟩ 1 1 [.int .u8 (c8:Int)] rfl rfl (fun j u hj=>by match j,hj with | 0,hj=>(simp at hj; subst hj; simp [Addr.add])) (by intro u hu; simp at hu; subst hu; rfl) (by unfold maxLen; omega) oM sO ?_) | go_in)
      intro v' w1 hown' hgrow _
      have E1:=hid (own_step hown' HC9.out)
      have E2:=hid (NatRow.grown (HQX.out.alloc _) (HOX.out.alloc _) hgrow)
      have E3:=hid ((HBX.out.alloc HBX.out.size _).grown hgrow sO (fun k hk=>(HOX.out.lt k hk).1))
      clear hown' hgrow
      go_wp2
      go_roundw
      case rel=>exact ⟨i + 1,oM,by go_num,by rw [<- HR2.out]; go_num,oM,E1.out,E2.out,E3.out⟩
      case measure=>exact mS
    ·have hx:i = 9 ∨ (i < 9 /\ gk % 1000000000 / 10 ^ i = 0 /\ kq = 0):=by
      rcases Nat.lt_or_ge i 9 with h | h
      ·have h2:¬ (9 * j + i < N):=fun h3=>hmore ⟨h,h3⟩
       have h3:¬ _:=fun h4=>h2 ((HM2.out i h).1 h4)
       exact .inr ⟨h,Nat.eq_zero_of_not_pos fun e=>h3 (.inl e),Nat.eq_zero_of_not_pos fun e=>h3 (.inr e)⟩
      ·exact .inl oM
     have hfin:(0 < kq -> 9 * j + i = 9 * (j + 1)) /\ (kq = 0 -> 9 * j + i = N):=by
      have h4:=HG.out (9 * (j + 1))
      rw [<- HQ1.out] at h4
      rcases hx with h | ⟨h,h5,h6⟩
      ·exact ⟨fun _=>oM,fun h7=>oM⟩
      ·exact ⟨fun _=>oM,fun _=>by
        rcases Nat.lt_or_ge (9 * j + i) N with h8 | h8
        ·exact absurd ⟨h,h8⟩ hmore
        ·omega⟩
     have HF:=hid hfin
     clear hox hqx hbx hmore hfin
     rcases hx with rfl | ⟨hi3,hR0,rfl⟩
     ·go_wp2
      go_roundg kq
      case measure=>exact HLT.out
      case rel=>exact ⟨j + 1,_,HQ1.out,HQX.out.nat,HOX.out,HF.out.1,HF.out.2,hiN,HBX.out⟩
     ·have hl0:lq = 0:=by have:=HLQ.out; omega
      have HF2:=hid (HF.out.2 rfl)
      rw [hR0] at *
      subst hl0
      go_wp2
      go_roundg 0
      case measure=>exact HLT.out
      case rel=>exact ⟨j + 1,_,HQ1.out,HQX.out.nat,HOX.out,HF.out.1,fun _=>HF2.out,hiN,HBX.out⟩
theorem rNatText_any (v:Value) (x:Nat) (w:World) (h:IsNat w v x) (hn:wl x <= 1099511627776) :
  Calls Tryz.prog 149 #[v] w fun e w'=>e = .returned (.string (strOfNums (dec x))) /\ Below w.heap.size w w':=by
 rcases Nat.eq_zero_or_pos x with h0 | h0
 ·subst h0; exact rNatText_zero v w h
 ·exact rNatText_pos v x w h h0 hn
theorem neg_quot {g:Nat} {a:Int} (hg:0 < g) (hd:(g:Int) ∣ a) (h:a < 0):a / (g:Int) < 0:=by
 obtain ⟨k,rfl⟩:=hd
 rw [Int.mul_ediv_cancel_left _ oM]
 rcases Int.lt_or_le k 0 with h4 | h4
 ·exact h4
 ·have:=Int.mul_nonneg (show (0:Int) <= (g:Int) by omega) h4
  omega
theorem rat_terms {p:Rat} {a:Int} {d:Nat} (hd:0 < d) (h:p * (d:Rat) = (a:Rat)):p.num.natAbs = a.natAbs / Nat.gcd a.natAbs d /\ p.den = d / Nat.gcd a.natAbs d /\ (p.num < 0 ↔ a < 0):=by
 have hl:=Low.of (x:=⟨p,0⟩) (b:=0) hd h sP
 have hg:gcd3 a 0 d = Nat.gcd a.natAbs d:=by simp [gcd3,Nat.gcd_comm]
 rw [hg] at hl
 obtain ⟨e1,-,e3⟩:=(low_rat p).uniq hl
 have hg0:0 < Nat.gcd a.natAbs d:=Nat.gcd_pos_of_pos_right _ hd
 have hdv:((Nat.gcd a.natAbs d:Nat):Int) ∣ a:=Int.ofNat_dvd_left.2 (Nat.gcd_dvd_left _ _)
 have hs:=sign_quot hg0 hdv
 refine ⟨by rw [e1]; exact hs.1,e3,?_⟩
 have h2:=hs.2
 rw [<- e1] at h2
 constructor
 ·intro h3
  rw [decide_eq_true h3] at h2
  simp at h2
  exact h2.1
 ·intro h3
  rw [e1]
  exact neg_quot hg0 hdv h3
theorem rhalf_nw (v u:Value) (a:Int) (d:Nat) (p:Rat) (w:World) (h:IsRI w v a) (hu:IsNat w u d) (hd:0 < d) (hp:p * (d:Rat) = (a:Rat)) (sa:wl a.natAbs < 549755813888) (sd:wl d < 549755813888) (hq:a < 0) (hm:d / Nat.gcd a.natAbs d = 1) :
  Calls Tryz.prog 112 #[v,u] w fun e w'=>e = .returned (.string (strOfNums (rt p))) /\ Below w.heap.size w w':=by
 obtain ⟨t1,t2,t3⟩:=rat_terms hd hp
 have hres:strOfNums (rt p) = _:=rt_nw (a:=p.num) (d:=p.den) (by rw [t3]; exact hq) (by rw [t2]; exact hm)
 rw [t1] at hres
 obtain ⟨A1,n1,c1,rfl,hn1,hs1⟩:=h.parts
 obtain ⟨A2,n2,c2,rfl,hn2⟩:=hu.ex
 have hg0:0 < Nat.gcd a.natAbs d:=Nat.gcd_pos_of_pos_right _ hd
 have sg:wl (Nat.gcd a.natAbs d) < 549755813888:=Nat.lt_of_le_of_lt (wl_mono (Nat.le_of_dvd hd (Nat.gcd_dvd_right _ _))) sd
 have sN:wl (a.natAbs / Nat.gcd a.natAbs d) < 549755813888:=Nat.lt_of_le_of_lt (wl_mono (Nat.div_le_self _ _)) sa
 have sM:wl (d / Nat.gcd a.natAbs d) < 549755813888:=Nat.lt_of_le_of_lt (wl_mono (Nat.div_le_self _ _)) sd
 have G1:=hid (fun W (hb:Below w.heap.size w W)=>rNatGcd_any _ _ _ _ W (hs1.below hb) (hu.below hb) sa sd)
 have D1:=hid (fun v W (hv:IsNat W v (Nat.gcd a.natAbs d)) (hb:Below w.heap.size w W)=>rNatDiv_any _ _ _ _ W (hs1.below hb) hv hg0 sa sg)
 have D2:=hid (fun v W (hv:IsNat W v (Nat.gcd a.natAbs d)) (hb:Below w.heap.size w W)=>rNatDiv_any _ _ _ _ W (hu.below hb) hv hg0 sd sg)
 have T1:=hid (fun v W (hv:IsNat W v (a.natAbs / Nat.gcd a.natAbs d))=>rNatText_any v _ W hv oM)
 have T2:=hid (fun v W (hv:IsNat W v (d / Nat.gcd a.natAbs d))=>rNatText_any v _ W hv oM)
 have z1:=dec_size (a.natAbs / Nat.gcd a.natAbs d)
 have z2:=nd_wl (a.natAbs / Nat.gcd a.natAbs d)
 have z3:=dec_size (d / Nat.gcd a.natAbs d)
 have z4:=nd_wl (d / Nat.gcd a.natAbs d)
 have hdq:decide (a < 0) = true:=sO
 rw [hdq]
 rw [hres]
 have y0:(strOfNums (dec (a.natAbs / Nat.gcd a.natAbs d))).size <= 20000000000000:=oM
 have y1:(strOfNums (dec (d / Nat.gcd a.natAbs d))).size <= 20000000000000:=oM
 clear hres t1 t2 t3 hp hdq hq h hu hs1 hd hn1 hn2 sa sd sg sN sM z1 z2 z3 z4 hg0
 generalize Nat.gcd a.natAbs d = g at *
 generalize a.natAbs / g = N at *
 generalize d / g = M at *
 generalize strOfNums (dec N) = S1 at *
 generalize strOfNums (dec M) = S2 at *
 have x1:¬ (9223372036854775807 < 1 + S1.size):=oM
 have x2:¬ (9223372036854775807 < 1 + S1.size + 1):=oM
 have x3:¬ (9223372036854775807 < 1 + S1.size + 1 + S2.size):=oM
 have x4:¬ (9223372036854775807 < S1.size + 1):=oM
 have x5:¬ (9223372036854775807 < S1.size + 1 + S2.size):=oM
 go_enter Tryz.func112,Tryz.ntmps112
 go_wp2_with fail
 refine (G1.out _ bel).mono ?_
 rintro e W2 ⟨v2,rfl,hv2,hb2⟩
 obtain ⟨hc2,hf2,hz2⟩:=bcells hb2 (w.heap.size + 1) sP
 have B2:Below w.heap.size w W2:=bel
 go_wp2_with fail
 refine (D1.out _ _ hv2 B2).mono ?_
 rintro e W3 ⟨v3,u3,rfl,hv3,-,hb3⟩
 obtain ⟨hc3,hf3,hz3⟩:=bcells hb3 (w.heap.size + 1) oM
 have B3:=bT B2 hb3
 go_wp2_with fail
 refine (D2.out _ _ (hv2.below hb3) B3).mono ?_
 rintro e W4 ⟨v4,u4,rfl,hv4,-,hb4⟩
 obtain ⟨hc4,hf4,hz4⟩:=bcells hb4 (w.heap.size + 1) oM
 have B4:=bT B3 hb4
 go_wp2_with fail
 refine (T1.out _ _ (hv3.below hb4)).mono ?_
 rintro e W5 ⟨rfl,hb5⟩
 obtain ⟨hc5,hf5,hz5⟩:=bcells hb5 (w.heap.size + 1) oM
 have B5:=bT B4 hb5
 replace hv4:=hv4.below hb5
 clear hv2 hv3 hb3 hb4 hb5
 subst hm
 obtain ⟨A4,c4,rfl,hc4',hw4⟩:=hv4
 rw [wl_one] at *
 obtain ⟨b4,o4,rfl,hb4,hcell4⟩:=hw4 oM
 have hcy:=hcell4 0 oM
 rw [show dg 1 0 = 1 from by simp [dg_zero],Nat.add_zero] at hcy
 clear hcell4 hw4
 go_wp2
 go_ret
 exact ⟨rfl,B5⟩
theorem rhalf_nf (v u:Value) (a:Int) (d:Nat) (p:Rat) (w:World) (h:IsRI w v a) (hu:IsNat w u d) (hd:0 < d) (hp:p * (d:Rat) = (a:Rat)) (sa:wl a.natAbs < 549755813888) (sd:wl d < 549755813888) (hq:a < 0) (hm:d / Nat.gcd a.natAbs d ≠ 1) :
  Calls Tryz.prog 112 #[v,u] w fun e w'=>e = .returned (.string (strOfNums (rt p))) /\ Below w.heap.size w w':=by
 obtain ⟨t1,t2,t3⟩:=rat_terms hd hp
 have hres:strOfNums (rt p) = _:=rt_nf (a:=p.num) (d:=p.den) (by rw [t3]; exact hq) (by rw [t2]; exact hm)
 rw [t1,t2] at hres
 obtain ⟨A1,n1,c1,rfl,hn1,hs1⟩:=h.parts
 obtain ⟨A2,n2,c2,rfl,hn2⟩:=hu.ex
 have hg0:0 < Nat.gcd a.natAbs d:=Nat.gcd_pos_of_pos_right _ hd
 have sg:wl (Nat.gcd a.natAbs d) < 549755813888:=Nat.lt_of_le_of_lt (wl_mono (Nat.le_of_dvd hd (Nat.gcd_dvd_right _ _))) sd
 have sN:wl (a.natAbs / Nat.gcd a.natAbs d) < 549755813888:=Nat.lt_of_le_of_lt (wl_mono (Nat.div_le_self _ _)) sa
 have sM:wl (d / Nat.gcd a.natAbs d) < 549755813888:=Nat.lt_of_le_of_lt (wl_mono (Nat.div_le_self _ _)) sd
 have G1:=hid (fun W (hb:Below w.heap.size w W)=>rNatGcd_any _ _ _ _ W (hs1.below hb) (hu.below hb) sa sd)
 have D1:=hid (fun v W (hv:IsNat W v (Nat.gcd a.natAbs d)) (hb:Below w.heap.size w W)=>rNatDiv_any _ _ _ _ W (hs1.below hb) hv hg0 sa sg)
 have D2:=hid (fun v W (hv:IsNat W v (Nat.gcd a.natAbs d)) (hb:Below w.heap.size w W)=>rNatDiv_any _ _ _ _ W (hu.below hb) hv hg0 sd sg)
 have T1:=hid (fun v W (hv:IsNat W v (a.natAbs / Nat.gcd a.natAbs d))=>rNatText_any v _ W hv oM)
 have T2:=hid (fun v W (hv:IsNat W v (d / Nat.gcd a.natAbs d))=>rNatText_any v _ W hv oM)
 have z1:=dec_size (a.natAbs / Nat.gcd a.natAbs d)
 have z2:=nd_wl (a.natAbs / Nat.gcd a.natAbs d)
 have z3:=dec_size (d / Nat.gcd a.natAbs d)
 have z4:=nd_wl (d / Nat.gcd a.natAbs d)
 have hdq:decide (a < 0) = true:=sO
 rw [hdq]
 rw [hres]
 rw [show ({ data:=#[45] } ++ strOfNums (dec (a.natAbs / Nat.gcd a.natAbs d)) ++ ({ data:=#[47] } ++ strOfNums (dec (d / Nat.gcd a.natAbs d))):ByteArray) = { data:=#[45] } ++ strOfNums (dec (a.natAbs / Nat.gcd a.natAbs d)) ++ { data:=#[47] } ++ strOfNums (dec (d / Nat.gcd a.natAbs d)) from (ByteArray.append_assoc).symm]
 have y0:(strOfNums (dec (a.natAbs / Nat.gcd a.natAbs d))).size <= 20000000000000:=oM
 have y1:(strOfNums (dec (d / Nat.gcd a.natAbs d))).size <= 20000000000000:=oM
 clear hres t1 t2 t3 hp hdq hq h hu hs1 hd hn1 hn2 sa sd sg sN sM z1 z2 z3 z4 hg0
 generalize Nat.gcd a.natAbs d = g at *
 generalize a.natAbs / g = N at *
 generalize d / g = M at *
 generalize strOfNums (dec N) = S1 at *
 generalize strOfNums (dec M) = S2 at *
 have x1:¬ (9223372036854775807 < 1 + S1.size):=oM
 have x2:¬ (9223372036854775807 < 1 + S1.size + 1):=oM
 have x3:¬ (9223372036854775807 < 1 + S1.size + 1 + S2.size):=oM
 have x4:¬ (9223372036854775807 < S1.size + 1):=oM
 have x5:¬ (9223372036854775807 < S1.size + 1 + S2.size):=oM
 go_enter Tryz.func112,Tryz.ntmps112
 go_wp2_with fail
 refine (G1.out _ bel).mono ?_
 rintro e W2 ⟨v2,rfl,hv2,hb2⟩
 obtain ⟨hc2,hf2,hz2⟩:=bcells hb2 (w.heap.size + 1) sP
 have B2:Below w.heap.size w W2:=bel
 go_wp2_with fail
 refine (D1.out _ _ hv2 B2).mono ?_
 rintro e W3 ⟨v3,u3,rfl,hv3,-,hb3⟩
 obtain ⟨hc3,hf3,hz3⟩:=bcells hb3 (w.heap.size + 1) oM
 have B3:=bT B2 hb3
 go_wp2_with fail
 refine (D2.out _ _ (hv2.below hb3) B3).mono ?_
 rintro e W4 ⟨v4,u4,rfl,hv4,-,hb4⟩
 obtain ⟨hc4,hf4,hz4⟩:=bcells hb4 (w.heap.size + 1) oM
 have B4:=bT B3 hb4
 go_wp2_with fail
 refine (T1.out _ _ (hv3.below hb4)).mono ?_
 rintro e W5 ⟨rfl,hb5⟩
 obtain ⟨hc5,hf5,hz5⟩:=bcells hb5 (w.heap.size + 1) oM
 have B5:=bT B4 hb5
 replace hv4:=hv4.below hb5
 clear hv2 hv3 hb3 hb4 hb5
 have HV4:=hid hv4
 obtain ⟨A4,c4,rfl,hc4',hw4⟩:=hv4
 have hq:(wl M = 1 /\ ∃ b o,A4 = some ⟨b,o,none⟩ /\ b < W5.heap.size /\ W5.cell? ⟨b,o,none⟩ = some (.int .u32 (M:Int))) ∨ ((wl M:Int) == 1) = false:=by
  by_cases hk1:wl M = 1
  ·refine .inl ⟨hk1,?_⟩
   obtain ⟨b4,o4,e4,hb4,hcell4⟩:=hw4 oM
   have hcy:=hcell4 0 oM
   have hx:=vs_dg_wl M
   rw [hk1,vs_one] at hx
   rw [hx,Nat.add_zero] at hcy
   exact ⟨b4,o4,e4,hb4,hcy⟩
  ·exact .inr sO
 clear hw4 hc4'
 have hk2:((M:Int) == 1) = false:=sO
 clear hm
 rcases hq with ⟨hk1,b4,o4,rfl,hb4,hcy⟩ | hk1
 all_goals
  try rw [hk1] at HV4
  go_wp2_with fail
  refine (T2.out _ _ HV4.out).mono ?_
  rintro e W6 ⟨rfl,hb6⟩
  go_wp2
  go_ret
  exact ⟨rfl,bT B5 hb6⟩
theorem rhalf_pw (v u:Value) (a:Int) (d:Nat) (p:Rat) (w:World) (h:IsRI w v a) (hu:IsNat w u d) (hd:0 < d) (hp:p * (d:Rat) = (a:Rat)) (sa:wl a.natAbs < 549755813888) (sd:wl d < 549755813888) (hq:¬ a < 0) (hm:d / Nat.gcd a.natAbs d = 1) :
  Calls Tryz.prog 112 #[v,u] w fun e w'=>e = .returned (.string (strOfNums (rt p))) /\ Below w.heap.size w w':=by
 obtain ⟨t1,t2,t3⟩:=rat_terms hd hp
 have hres:strOfNums (rt p) = _:=rt_pw (a:=p.num) (d:=p.den) (by rw [t3]; exact hq) (by rw [t2]; exact hm)
 rw [t1] at hres
 obtain ⟨A1,n1,c1,rfl,hn1,hs1⟩:=h.parts
 obtain ⟨A2,n2,c2,rfl,hn2⟩:=hu.ex
 have hg0:0 < Nat.gcd a.natAbs d:=Nat.gcd_pos_of_pos_right _ hd
 have sg:wl (Nat.gcd a.natAbs d) < 549755813888:=Nat.lt_of_le_of_lt (wl_mono (Nat.le_of_dvd hd (Nat.gcd_dvd_right _ _))) sd
 have sN:wl (a.natAbs / Nat.gcd a.natAbs d) < 549755813888:=Nat.lt_of_le_of_lt (wl_mono (Nat.div_le_self _ _)) sa
 have sM:wl (d / Nat.gcd a.natAbs d) < 549755813888:=Nat.lt_of_le_of_lt (wl_mono (Nat.div_le_self _ _)) sd
 have G1:=hid (fun W (hb:Below w.heap.size w W)=>rNatGcd_any _ _ _ _ W (hs1.below hb) (hu.below hb) sa sd)
 have D1:=hid (fun v W (hv:IsNat W v (Nat.gcd a.natAbs d)) (hb:Below w.heap.size w W)=>rNatDiv_any _ _ _ _ W (hs1.below hb) hv hg0 sa sg)
 have D2:=hid (fun v W (hv:IsNat W v (Nat.gcd a.natAbs d)) (hb:Below w.heap.size w W)=>rNatDiv_any _ _ _ _ W (hu.below hb) hv hg0 sd sg)
 have T1:=hid (fun v W (hv:IsNat W v (a.natAbs / Nat.gcd a.natAbs d))=>rNatText_any v _ W hv oM)
 have T2:=hid (fun v W (hv:IsNat W v (d / Nat.gcd a.natAbs d))=>rNatText_any v _ W hv oM)
 have z1:=dec_size (a.natAbs / Nat.gcd a.natAbs d)
 have z2:=nd_wl (a.natAbs / Nat.gcd a.natAbs d)
 have z3:=dec_size (d / Nat.gcd a.natAbs d)
 have z4:=nd_wl (d / Nat.gcd a.natAbs d)
 have hdq:decide (a < 0) = false:=sO
 rw [hdq]
 rw [hres]
 have y0:(strOfNums (dec (a.natAbs / Nat.gcd a.natAbs d))).size <= 20000000000000:=oM
 have y1:(strOfNums (dec (d / Nat.gcd a.natAbs d))).size <= 20000000000000:=oM
 clear hres t1 t2 t3 hp hdq hq h hu hs1 hd hn1 hn2 sa sd sg sN sM z1 z2 z3 z4 hg0
 generalize Nat.gcd a.natAbs d = g at *
 generalize a.natAbs / g = N at *
 generalize d / g = M at *
 generalize strOfNums (dec N) = S1 at *
 generalize strOfNums (dec M) = S2 at *
 have x1:¬ (9223372036854775807 < 1 + S1.size):=oM
 have x2:¬ (9223372036854775807 < 1 + S1.size + 1):=oM
 have x3:¬ (9223372036854775807 < 1 + S1.size + 1 + S2.size):=oM
 have x4:¬ (9223372036854775807 < S1.size + 1):=oM
 have x5:¬ (9223372036854775807 < S1.size + 1 + S2.size):=oM
 go_enter Tryz.func112,Tryz.ntmps112
 go_wp2_with fail
 refine (G1.out _ bel).mono ?_
 rintro e W2 ⟨v2,rfl,hv2,hb2⟩
 obtain ⟨hc2,hf2,hz2⟩:=bcells hb2 (w.heap.size + 1) sP
 have B2:Below w.heap.size w W2:=bel
 go_wp2_with fail
 refine (D1.out _ _ hv2 B2).mono ?_
 rintro e W3 ⟨v3,u3,rfl,hv3,-,hb3⟩
 obtain ⟨hc3,hf3,hz3⟩:=bcells hb3 (w.heap.size + 1) oM
 have B3:=bT B2 hb3
 go_wp2_with fail
 refine (D2.out _ _ (hv2.below hb3) B3).mono ?_
 rintro e W4 ⟨v4,u4,rfl,hv4,-,hb4⟩
 obtain ⟨hc4,hf4,hz4⟩:=bcells hb4 (w.heap.size + 1) oM
 have B4:=bT B3 hb4
 go_wp2_with fail
 refine (T1.out _ _ (hv3.below hb4)).mono ?_
 rintro e W5 ⟨rfl,hb5⟩
 obtain ⟨hc5,hf5,hz5⟩:=bcells hb5 (w.heap.size + 1) oM
 have B5:=bT B4 hb5
 replace hv4:=hv4.below hb5
 clear hv2 hv3 hb3 hb4 hb5
 subst hm
 obtain ⟨A4,c4,rfl,hc4',hw4⟩:=hv4
 rw [wl_one] at *
 obtain ⟨b4,o4,rfl,hb4,hcell4⟩:=hw4 oM
 have hcy:=hcell4 0 oM
 rw [show dg 1 0 = 1 from by simp [dg_zero],Nat.add_zero] at hcy
 clear hcell4 hw4
 go_wp2
 go_ret
 exact ⟨rfl,B5⟩
theorem rhalf_pf (v u:Value) (a:Int) (d:Nat) (p:Rat) (w:World) (h:IsRI w v a) (hu:IsNat w u d) (hd:0 < d) (hp:p * (d:Rat) = (a:Rat)) (sa:wl a.natAbs < 549755813888) (sd:wl d < 549755813888) (hq:¬ a < 0) (hm:d / Nat.gcd a.natAbs d ≠ 1) :
  Calls Tryz.prog 112 #[v,u] w fun e w'=>e = .returned (.string (strOfNums (rt p))) /\ Below w.heap.size w w':=by
 obtain ⟨t1,t2,t3⟩:=rat_terms hd hp
 have hres:strOfNums (rt p) = _:=rt_pf (a:=p.num) (d:=p.den) (by rw [t3]; exact hq) (by rw [t2]; exact hm)
 rw [t1,t2] at hres
 obtain ⟨A1,n1,c1,rfl,hn1,hs1⟩:=h.parts
 obtain ⟨A2,n2,c2,rfl,hn2⟩:=hu.ex
 have hg0:0 < Nat.gcd a.natAbs d:=Nat.gcd_pos_of_pos_right _ hd
 have sg:wl (Nat.gcd a.natAbs d) < 549755813888:=Nat.lt_of_le_of_lt (wl_mono (Nat.le_of_dvd hd (Nat.gcd_dvd_right _ _))) sd
 have sN:wl (a.natAbs / Nat.gcd a.natAbs d) < 549755813888:=Nat.lt_of_le_of_lt (wl_mono (Nat.div_le_self _ _)) sa
 have sM:wl (d / Nat.gcd a.natAbs d) < 549755813888:=Nat.lt_of_le_of_lt (wl_mono (Nat.div_le_self _ _)) sd
 have G1:=hid (fun W (hb:Below w.heap.size w W)=>rNatGcd_any _ _ _ _ W (hs1.below hb) (hu.below hb) sa sd)
 have D1:=hid (fun v W (hv:IsNat W v (Nat.gcd a.natAbs d)) (hb:Below w.heap.size w W)=>rNatDiv_any _ _ _ _ W (hs1.below hb) hv hg0 sa sg)
 have D2:=hid (fun v W (hv:IsNat W v (Nat.gcd a.natAbs d)) (hb:Below w.heap.size w W)=>rNatDiv_any _ _ _ _ W (hu.below hb) hv hg0 sd sg)
 have T1:=hid (fun v W (hv:IsNat W v (a.natAbs / Nat.gcd a.natAbs d))=>rNatText_any v _ W hv oM)
 have T2:=hid (fun v W (hv:IsNat W v (d / Nat.gcd a.natAbs d))=>rNatText_any v _ W hv oM)
 have z1:=dec_size (a.natAbs / Nat.gcd a.natAbs d)
 have z2:=nd_wl (a.natAbs / Nat.gcd a.natAbs d)
 have z3:=dec_size (d / Nat.gcd a.natAbs d)
 have z4:=nd_wl (d / Nat.gcd a.natAbs d)
 have hdq:decide (a < 0) = false:=sO
 rw [hdq]
 rw [hres]
 rw [show (strOfNums (dec (a.natAbs / Nat.gcd a.natAbs d)) ++ ({ data:=#[47] } ++ strOfNums (dec (d / Nat.gcd a.natAbs d))):ByteArray) = strOfNums (dec (a.natAbs / Nat.gcd a.natAbs d)) ++ { data:=#[47] } ++ strOfNums (dec (d / Nat.gcd a.natAbs d)) from (ByteArray.append_assoc).symm]
 have y0:(strOfNums (dec (a.natAbs / Nat.gcd a.natAbs d))).size <= 20000000000000:=oM
 have y1:(strOfNums (dec (d / Nat.gcd a.natAbs d))).size <= 20000000000000:=oM
 clear hres t1 t2 t3 hp hdq hq h hu hs1 hd hn1 hn2 sa sd sg sN sM z1 z2 z3 z4 hg0
 generalize Nat.gcd a.natAbs d = g at *
 generalize a.natAbs / g = N at *
 generalize d / g = M at *
 generalize strOfNums (dec N) = S1 at *
 generalize strOfNums (dec M) = S2 at *
 have x1:¬ (9223372036854775807 < 1 + S1.size):=oM
 have x2:¬ (9223372036854775807 < 1 + S1.size + 1):=oM
 have x3:¬ (9223372036854775807 < 1 + S1.size + 1 + S2.size):=oM
 have x4:¬ (9223372036854775807 < S1.size + 1):=oM
 have x5:¬ (9223372036854775807 < S1.size + 1 + S2.size):=oM
 go_enter Tryz.func112,Tryz.ntmps112
 go_wp2_with fail
 refine (G1.out _ bel).mono ?_
 rintro e W2 ⟨v2,rfl,hv2,hb2⟩
 obtain ⟨hc2,hf2,hz2⟩:=bcells hb2 (w.heap.size + 1) sP
 have B2:Below w.heap.size w W2:=bel
 go_wp2_with fail
 refine (D1.out _ _ hv2 B2).mono ?_
 rintro e W3 ⟨v3,u3,rfl,hv3,-,hb3⟩
 obtain ⟨hc3,hf3,hz3⟩:=bcells hb3 (w.heap.size + 1) oM
 have B3:=bT B2 hb3
 go_wp2_with fail
 refine (D2.out _ _ (hv2.below hb3) B3).mono ?_
 rintro e W4 ⟨v4,u4,rfl,hv4,-,hb4⟩
 obtain ⟨hc4,hf4,hz4⟩:=bcells hb4 (w.heap.size + 1) oM
 have B4:=bT B3 hb4
 go_wp2_with fail
 refine (T1.out _ _ (hv3.below hb4)).mono ?_
 rintro e W5 ⟨rfl,hb5⟩
 obtain ⟨hc5,hf5,hz5⟩:=bcells hb5 (w.heap.size + 1) oM
 have B5:=bT B4 hb5
 replace hv4:=hv4.below hb5
 clear hv2 hv3 hb3 hb4 hb5
 have HV4:=hid hv4
 obtain ⟨A4,c4,rfl,hc4',hw4⟩:=hv4
 have hq:(wl M = 1 /\ ∃ b o,A4 = some ⟨b,o,none⟩ /\ b < W5.heap.size /\ W5.cell? ⟨b,o,none⟩ = some (.int .u32 (M:Int))) ∨ ((wl M:Int) == 1) = false:=by
  by_cases hk1:wl M = 1
  ·refine .inl ⟨hk1,?_⟩
   obtain ⟨b4,o4,e4,hb4,hcell4⟩:=hw4 oM
   have hcy:=hcell4 0 oM
   have hx:=vs_dg_wl M
   rw [hk1,vs_one] at hx
   rw [hx,Nat.add_zero] at hcy
   exact ⟨b4,o4,e4,hb4,hcy⟩
  ·exact .inr sO
 clear hw4 hc4'
 have hk2:((M:Int) == 1) = false:=sO
 clear hm
 rcases hq with ⟨hk1,b4,o4,rfl,hb4,hcy⟩ | hk1
 all_goals
  try rw [hk1] at HV4
  go_wp2_with fail
  refine (T2.out _ _ HV4.out).mono ?_
  rintro e W6 ⟨rfl,hb6⟩
  go_wp2
  go_ret
  exact ⟨rfl,bT B5 hb6⟩
theorem rhalf_any (v u:Value) (a:Int) (d:Nat) (p:Rat) (w:World) (h:IsRI w v a) (hu:IsNat w u d) (hd:0 < d) (hp:p * (d:Rat) = (a:Rat)) (sa:wl a.natAbs < 549755813888) (sd:wl d < 549755813888) :
  Calls Tryz.prog 112 #[v,u] w fun e w'=>e = .returned (.string (strOfNums (rt p))) /\ Below w.heap.size w w':=by
 by_cases hq:a < 0 <;> by_cases hm:d / Nat.gcd a.natAbs d = 1
 ·exact rhalf_nw v u a d p w h hu hd hp sa sd hq hm
 ·exact rhalf_nf v u a d p w h hu hd hp sa sd hq hm
 ·exact rhalf_pw v u a d p w h hu hd hp sa sd hq hm
 ·exact rhalf_pf v u a d p w h hu hd hp sa sd hq hm
end Go.Proofs.YtffegeaflohfhaaGreatDoor
