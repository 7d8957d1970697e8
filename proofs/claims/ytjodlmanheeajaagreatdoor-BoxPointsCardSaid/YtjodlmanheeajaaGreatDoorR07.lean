import Derived.Deep.RegionHeld3
import Derived.Test.YtjodlmanheeajaaGreatDoorR02
import Derived.Test.YtjodlmanheeajaaGreatDoorR05
import Derived.Test.YtjodlmanheeajaaGreatDoorR06
set_option linter.unusedVariables false
set_option linter.unusedSimpArgs false
set_option maxRecDepth 100000
set_option maxHeartbeats 8000000
namespace Go.Proofs.YtjodlmanheeajaaGreatDoor
open Go.RowKit
def IsInt (w:World) (v:Value) (z:Int):Prop:=∃ s,v = .agg #[s,.bool (decide (z < 0))] /\ IsNat w s z.natAbs
theorem IsInt.below {w w':World} {v:Value} {z:Int} (h:IsInt w v z) (hb:Below w.heap.size w w'):IsInt w' v z:=by
 obtain ⟨s,h1,h2⟩:=h
 exact ⟨s,h1,h2.below hb⟩
def RetInt (w:World) (z:Int) (e:Ending) (w':World):Prop:=∃ v,e = .returned v /\ IsInt w' v z /\ Below w.heap.size w w'
theorem IsNat.set_odd {w:World} {v:Value} {x:Nat} {p:Addr} {u:Value} (h:IsNat w v x) (hp:w.cell? p = some u) (ho:∀ k,u ≠ .int .u32 k) (u':Value):IsNat (w.setCell p u') v x:=by
 obtain ⟨A,c,rfl,hc,hw⟩:=h
 refine ⟨A,c,rfl,hc,fun h0=>?_⟩
 obtain ⟨b,off,hA,hlt,hcell⟩:=hw h0
 refine ⟨b,off,hA,by simpa [World.setCell] using hlt,fun j hj=>?_⟩
 have hne:p ≠ ⟨b,off + j,none⟩:=by
  rintro rfl
  rw [hcell j hj] at hp
  exact ho _ (Option.some.inj hp).symm
 rw [<- hcell j hj]
 exact World.cell?_setCell_other _ _ _ _ hne
theorem IsNat.box {w:World} {v:Value} {x g:Nat} {A:Option Addr} {n c:Nat} {q:Bool} (h:IsNat w v x) (h0:w.cell? ⟨g,0,none⟩ = some (.slice A n c)) (h1:w.cell? ⟨g,1,none⟩ = some (.bool q)) (u u':Value) :
  IsNat ((w.setCell ⟨g,0,none⟩ u).setCell ⟨g,1,none⟩ u') v x:=by
 have:=h.set_odd h0 sP u
 refine this.set_odd (u:=.bool q) ?_ sP u'
 rw [<- h1]
 exact World.cell?_setCell_other _ _ _ _ sP
theorem RetInt.box {w W2:World} {v:Value} {z:Int} {g:Nat} {A:Option Addr} {n c:Nat} {q b:Bool} (hb:Below w.heap.size w W2) (hg:w.heap.size <= g) (hr:IsNat W2 v z.natAbs) (hs:b = decide (z < 0))
  (h0:W2.cell? ⟨g,0,none⟩ = some (.slice A n c)) (h1:W2.cell? ⟨g,1,none⟩ = some (.bool q)) (u u':Value) :
  RetInt w z (.returned (.agg #[v,.bool b])) ((W2.setCell ⟨g,0,none⟩ u).setCell ⟨g,1,none⟩ u'):=by
 subst hs
 exact ⟨_,rfl,⟨_,rfl,hr.box h0 h1 u u'⟩,(hb.setCell hg u).setCell hg u'⟩
theorem isZero_any (v:Value) (z:Int) (w:World) (h:IsInt w v z) :
  Calls Tryz.prog 113 #[v] w fun e w'=>e = .returned (.bool (decide (z = 0))) /\ Below w.heap.size w w':=by
 obtain ⟨s,rfl,hn⟩:=h
 obtain ⟨A,n,c,rfl,hnn⟩:=hn.ex
 have hd:((n:Int) == 0) = decide (z = 0):=by
  rw [Bool.eq_iff_iff]
  simp
  rw [hnn]
  have:=wl_eq_zero (x:=z.natAbs)
  omega
 clear hnn hn
 generalize decide (z < 0) = b at *
 go_enter Tryz.func113,Tryz.ntmps113
 go_wp2
 go_ret
 exact ⟨rfl,below_alloc _ _⟩
theorem neg_any (v:Value) (z:Int) (w:World) (h:IsInt w v z) :
  Calls Tryz.prog 159 #[v] w (RetInt w (-z)):=by
 obtain ⟨s,rfl,hn⟩:=h
 have hn':IsNat w s (-z).natAbs:=by rw [Int.natAbs_neg]; exact hn
 have HN:=hid hn'
 obtain ⟨A,n,c,rfl,hnn⟩:=hn.ex
 clear hnn
 by_cases hz:z < 0
 ·have hd:decide (z < 0) = true:=by simpa using hz
  have hd2:decide (-z < 0) = false:=sO
  have HI:=hid (fun W (hb:Below w.heap.size w W)=>isZero_any (.agg #[_,.bool (decide (z < 0))]) z W ⟨_,rfl,hn.below hb⟩)
  rw [hd] at HI ⊢
  have HD2:=hid hd2
  clear hn hn' hd hd2 hz
  go_enter Tryz.func159,Tryz.ntmps159
  go_wp2_with fail
  go_region
  all_goals
   go_wp2
   refine bodyPost_ret (v:=.agg #[.slice A n c,.bool false]) (by simp [results,Tryz.results159,go_sem]) rfl ?_
   exact ⟨_,rfl,⟨_,by rw [HD2.out],HN.out.below ((bT (below_alloc _ _) (below_alloc _ _)).drew)⟩,(bT (below_alloc _ _) (below_alloc _ _)).drew⟩
 ·have hd:decide (z < 0) = false:=by simpa using hz
  rw [hd]
  have hd2:decide (-z < 0) = !decide (z = 0):=by
   rw [Bool.eq_iff_iff]
   simp
   omega
  have HD2:=hid hd2
  have HI:=hid (fun W (hb:Below w.heap.size w W)=>isZero_any (.agg #[_,.bool false]) z W ⟨_,by rw [hd],hn.below hb⟩)
  clear hn hn' hd hd2 hz
  cases hbz:decide (z = 0)
  all_goals
   rw [hbz] at HI HD2
   clear hbz
   go_enter Tryz.func159,Tryz.ntmps159
   go_wp2_with fail
   go_region_held3 (fun w'=>w'.cell? ⟨w.heap.size,0,none⟩ = some (.slice A n c) /\ w'.cell? ⟨w.heap.size,1,none⟩ = some (.bool false)) (go_keep) ((go_at_call 113; refine (HI.out _ ?_).mono ?_; (exact ((bT (below_alloc _ _) (below_alloc _ _)).drew)); rintro e W2 ⟨rfl,hb2⟩; have k0:=(hb2.cell (p:=⟨w.heap.size,0,none⟩) sO); have k1:=(hb2.cell (p:=⟨w.heap.size,1,none⟩) sO); have k2:=(hb2.cell (p:=⟨w.heap.size + 1,0,none⟩) sP); have k3:=(hb2.cell (p:=⟨w.heap.size + 1,1,none⟩) sP); have k4:=(hb2.frozen (p:=⟨w.heap.size + 1,0,none⟩) sP); have k5:=(hb2.frozen (p:=⟨w.heap.size + 1,1,none⟩) sP)))
   go_wp2
   have B0:Below w.heap.size w W2:=(bT (below_alloc _ _) (below_alloc _ _)).drew.trans (hb2.mono sO)
   have B1:=(B0.setCell (p:=⟨w.heap.size + 1,0,none⟩) sP (.slice A n c))
   refine bodyPost_ret (v:=.agg #[.slice A n c,.bool _]) (by simp [results,Tryz.results159,go_sem,k2,k3]; rfl) rfl ?_
   exact ⟨_,rfl,⟨_,by rw [HD2.out]; rfl,HN.out.below (B1.setCell sP _)⟩,B1.setCell sP _⟩
theorem exactI_any (v u:Value) (z:Int) (y:Nat) (w:World) (h:IsInt w v z) (hu:IsNat w u y) (hy:0 < y) (hd:(y:Int) ∣ z) (hn:wl z.natAbs < 549755813888) (hm:wl y < 549755813888) (hT:Tab w) :
  Calls Tryz.prog 189 #[v,u] w (RetInt w (z / y)):=by
 obtain ⟨s,rfl,hs⟩:=h
 obtain ⟨A,n,c,rfl,hnn⟩:=hs.ex
 clear hnn
 have HE:=hid (fun W (hb:Below w.heap.size w W)=>exact_any _ _ _ _ W (hs.below hb) (hu.below hb) hy hn hm (hT.below hb))
 have hq:decide (z / (y:Int) < 0) = decide (z < 0) /\ (z / (y:Int)).natAbs = z.natAbs / y:=by
  obtain ⟨k,rfl⟩:=hd
  have h1:(y:Int) * k / y = k:=Int.mul_ediv_cancel_left _ oM
  rw [h1,Int.natAbs_mul,Int.natAbs_natCast,Nat.mul_div_cancel_left _ hy]
  refine ⟨?_,rfl⟩
  rw [Bool.eq_iff_iff]
  simp only [decide_eq_true_eq]
  constructor
  ·intro h; exact Int.mul_neg_of_pos_of_neg oM h
  ·intro h
   rcases Int.lt_or_le k 0 with h2 | h2
   ·exact h2
   ·have:=Int.mul_nonneg (a:=(y:Int)) oM h2; omega
 have HQ:=hid hq
 obtain ⟨B,m,d,rfl,hnn⟩:=hu.ex
 clear hnn hs hu hq hd
 generalize decide (z < 0) = b at *
 go_enter Tryz.func189,Tryz.ntmps189
 go_wp2_with fail
 go_region_held3 (fun w'=>w'.cell? ⟨w.heap.size,0,none⟩ = some (.slice A n c) /\ w'.cell? ⟨w.heap.size,1,none⟩ = some (.bool b)) (go_keep) ((go_at_call 190; refine (HE.out _ ?_).mono ?_; (exact ((bT (below_alloc _ _) (below_alloc _ _)).drew)); rintro e W2 ⟨r,rfl,hr,hb2⟩; have k0:=(hb2.cell (p:=⟨w.heap.size,0,none⟩) sO); have k1:=(hb2.cell (p:=⟨w.heap.size,1,none⟩) sO); have k2:=(hb2.cell (p:=⟨w.heap.size + 1,0,none⟩) sP); have k3:=(hb2.cell (p:=⟨w.heap.size + 1,1,none⟩) sP); have k4:=(hb2.frozen (p:=⟨w.heap.size + 1,0,none⟩) sP); have k5:=(hb2.frozen (p:=⟨w.heap.size + 1,1,none⟩) sP); obtain ⟨A2,n2,c2,rfl,hnn2⟩:=hr.ex; subst hnn2))
 go_wp2
 have B0:Below w.heap.size w W2:=(bT (below_alloc _ _) (below_alloc _ _)).drew.trans (hb2.mono sO)
 refine bodyPost_ret (v:=.agg #[.slice A2 _ c2,.bool b]) (by simp [results,Tryz.results189,go_sem,k2,k3]; rfl) rfl ?_
 exact RetInt.box (A:=none) (n:=0) (c:=0) (q:=false) B0 sP (by rw [HQ.out.2]; exact hr) (HQ.out.1.symm) (k2.trans sG) (k3.trans sG) _ _
theorem upI_any (v:Value) (z:Int) (n:Nat) (w:World) (h:IsInt w v z) (hn:wl z.natAbs + n / 32 < 1099511627776) (hn2:n < 1125899906842624) :
  Calls Tryz.prog 97 #[v,.int .i64 (n:Int)] w (RetInt w (z * 2 ^ n)):=by
 obtain ⟨s,rfl,hs⟩:=h
 obtain ⟨A,m,c,rfl,hnn⟩:=hs.ex
 clear hnn
 have HE:=hid (fun W (hb:Below w.heap.size w W)=>up_any _ _ _ W (hs.below hb) hn hn2)
 have hp:(0:Int) < 2 ^ n:=Int.pow_pos oM
 have hq:decide (z * 2 ^ n < 0) = decide (z < 0) /\ (z * 2 ^ n).natAbs = z.natAbs * 2 ^ n:=by
  rw [Int.natAbs_mul,Int.natAbs_pow]
  refine ⟨?_,rfl⟩
  rw [Bool.eq_iff_iff]
  simp only [decide_eq_true_eq]
  constructor
  ·intro h
   rcases Int.lt_or_le z 0 with h2 | h2
   ·exact h2
   ·have:=Int.mul_nonneg h2 (Int.le_of_lt hp); omega
  ·intro h; exact Int.mul_neg_of_neg_of_pos h hp
 have HQ:=hid hq
 clear hs hq
 generalize decide (z < 0) = b at *
 go_enter Tryz.func97,Tryz.ntmps97
 go_wp2_with fail
 go_region_held3 (fun w'=>w'.cell? ⟨w.heap.size,0,none⟩ = some (.slice A m c) /\ w'.cell? ⟨w.heap.size,1,none⟩ = some (.bool b)) (go_keep) ((go_at_call 98; refine (HE.out _ ?_).mono ?_; (exact ((bT (below_alloc _ _) (below_alloc _ _)).drew)); rintro e W2 ⟨r,rfl,hr,hb2⟩; have k0:=(hb2.cell (p:=⟨w.heap.size,0,none⟩) sO); have k1:=(hb2.cell (p:=⟨w.heap.size,1,none⟩) sO); have k2:=(hb2.cell (p:=⟨w.heap.size + 1,0,none⟩) sP); have k3:=(hb2.cell (p:=⟨w.heap.size + 1,1,none⟩) sP); have k4:=(hb2.frozen (p:=⟨w.heap.size + 1,0,none⟩) sP); have k5:=(hb2.frozen (p:=⟨w.heap.size + 1,1,none⟩) sP); obtain ⟨A2,n2,c2,rfl,hnn2⟩:=hr.ex; subst hnn2))
 go_wp2
 have B0:Below w.heap.size w W2:=(bT (below_alloc _ _) (below_alloc _ _)).drew.trans (hb2.mono sO)
 refine bodyPost_ret (v:=.agg #[.slice A2 _ c2,.bool b]) (by simp [results,Tryz.results97,go_sem,k2,k3]; rfl) rfl ?_
 exact RetInt.box (A:=none) (n:=0) (c:=0) (q:=false) B0 sP (by rw [HQ.out.2]; exact hr) (HQ.out.1.symm) (k2.trans sG) (k3.trans sG) _ _
theorem signed_any (v:Value) (z:Int) (b:Bool) (w:World) (h:IsInt w v z) :
  Calls Tryz.prog 118 #[v,.bool b] w (RetInt w (if b then -z else z)):=by
 have HI:=hid h
 obtain ⟨s,rfl,hs⟩:=h
 obtain ⟨A,m,c,rfl,hnn⟩:=hs.ex
 clear hnn
 generalize decide (z < 0) = q at *
 cases b
 ·go_enter Tryz.func118,Tryz.ntmps118
  go_wp2
  refine bodyPost_ret (v:=.agg #[.slice A m c,.bool q]) (by simp [results,Tryz.results118,go_sem]) rfl ?_
  exact ⟨_,rfl,HI.out.below (bT (below_alloc _ _) (below_alloc _ _)),bT (below_alloc _ _) (below_alloc _ _)⟩
 ·go_enter Tryz.func118,Tryz.ntmps118
  go_wp2_with (go_at_call 159; refine (neg_any _ _ _ (HI.out.below (bT (below_alloc _ _) (below_alloc _ _)))).mono ?_; rintro e W2 ⟨r,rfl,hr,hb2⟩; obtain ⟨s2,rfl,hs2⟩:=hr; obtain ⟨A2,n2,c2,rfl,hnn2⟩:=hs2.ex; clear hnn2; have k2:=(hb2.cell (p:=⟨w.heap.size + 1,0,none⟩) sP); have k3:=(hb2.cell (p:=⟨w.heap.size + 1,1,none⟩) sP); have k4:=(hb2.frozen (p:=⟨w.heap.size + 1,0,none⟩) sP); have k5:=(hb2.frozen (p:=⟨w.heap.size + 1,1,none⟩) sP); generalize hq2:decide (-z < 0) = q2)
  have B0:Below w.heap.size w W2:=(bT (below_alloc _ _) (below_alloc _ _)).trans (hb2.mono sO)
  refine bodyPost_ret (v:=.agg #[.slice A2 _ c2,.bool q2]) (by simp [results,Tryz.results118,go_sem,k2,k3]; rfl) rfl ?_
  exact RetInt.box (A:=none) (n:=0) (c:=0) (q:=false) B0 sP hs2 hq2.symm (k2.trans sG) (k3.trans sG) _ _
theorem scaleI_any (v u:Value) (z:Int) (y:Nat) (w:World) (h:IsInt w v z) (hu:IsNat w u y) (hn:wl z.natAbs + wl y < 549755813888) :
  Calls Tryz.prog 221 #[v,u] w (RetInt w (z * y)):=by
 obtain ⟨s,rfl,hs⟩:=h
 obtain ⟨A,n,c,rfl,hnn⟩:=hs.ex
 obtain ⟨A',n',c',rfl,hnn'⟩:=hu.ex
 clear hnn hnn'
 have HE:=hid (fun W (hb:Below w.heap.size w W)=>mul_any _ _ _ _ W (hs.below hb) (hu.below hb) hn)
 have hq:decide (z * y < 0) = (decide (z < 0) && decide ((0:Int) < (wl (z.natAbs * y):Int))) /\ (z * y).natAbs = z.natAbs * y:=by
  have ha:(z * y).natAbs = z.natAbs * y:=by rw [Int.natAbs_mul,Int.natAbs_natCast]
  refine ⟨?_,ha⟩
  have hw:=wl_eq_zero (x:=z.natAbs * y)
  rw [<- ha] at hw ⊢
  have h1:z * y < 0 ↔ z < 0 /\ z * y ≠ 0:=by
   constructor
   ·intro h
    refine ⟨?_,oM⟩
    rcases Int.lt_or_le z 0 with h2 | h2
    ·exact h2
    ·have:=Int.mul_nonneg h2 (Int.natCast_nonneg y); omega
   ·rintro ⟨h2,h3⟩
    have:=Int.mul_nonpos_of_nonpos_of_nonneg (Int.le_of_lt h2) (Int.natCast_nonneg y)
    omega
  rw [Bool.eq_iff_iff]
  simp only [Bool.and_eq_true,decide_eq_true_eq]
  rw [h1]
  omega
 have HQ:=hid hq
 clear hs hu hq
 cases hb:decide (z < 0)
 ·rw [hb] at HQ
  go_enter Tryz.func221,Tryz.ntmps221
  go_wp2_with (first | (go_at_call 222; refine (HE.out _ (bT (below_alloc _ _) (below_alloc _ _))).mono ?_; rintro e W2 ⟨r,rfl,hr,hb2⟩; have k0:=(hb2.cell (p:=⟨w.heap.size,0,none⟩) sO); have k1:=(hb2.cell (p:=⟨w.heap.size,1,none⟩) sO); have k2:=(hb2.cell (p:=⟨w.heap.size + 1,0,none⟩) sP); have k3:=(hb2.cell (p:=⟨w.heap.size + 1,1,none⟩) sP); have k4:=(hb2.frozen (p:=⟨w.heap.size + 1,0,none⟩) sP); have k5:=(hb2.frozen (p:=⟨w.heap.size + 1,1,none⟩) sP); obtain ⟨A2,n2,c2,rfl,hnn2⟩:=hr.ex; subst hnn2) | fail)
  have B0:Below w.heap.size w W2:=(bT (below_alloc _ _) (below_alloc _ _)).trans (hb2.mono sO)
  refine bodyPost_ret (v:=.agg #[.slice A2 (wl (z.natAbs * y)) c2,.bool false]) (by simp [results,Tryz.results221,go_sem,k2,k3]) rfl ?_
  exact RetInt.box (A:=none) (n:=0) (c:=0) (q:=false) B0 sP (by rw [HQ.out.2]; exact hr) (by rw [HQ.out.1]; simp) (k2.trans sG) (k3.trans sG) _ _
 ·rw [hb] at HQ
  go_enter Tryz.func221,Tryz.ntmps221
  go_wp2_with (first | (go_at_call 222; refine (HE.out _ (bT (below_alloc _ _) (below_alloc _ _))).mono ?_; rintro e W2 ⟨r,rfl,hr,hb2⟩; have k0:=(hb2.cell (p:=⟨w.heap.size,0,none⟩) sO); have k1:=(hb2.cell (p:=⟨w.heap.size,1,none⟩) sO); have k2:=(hb2.cell (p:=⟨w.heap.size + 1,0,none⟩) sP); have k3:=(hb2.cell (p:=⟨w.heap.size + 1,1,none⟩) sP); have k4:=(hb2.frozen (p:=⟨w.heap.size + 1,0,none⟩) sP); have k5:=(hb2.frozen (p:=⟨w.heap.size + 1,1,none⟩) sP); obtain ⟨A2,n2,c2,rfl,hnn2⟩:=hr.ex; subst hnn2) | fail)
  have B0:Below w.heap.size w W2:=(bT (below_alloc _ _) (below_alloc _ _)).trans (hb2.mono sO)
  refine bodyPost_ret (v:=.agg #[.slice A2 (wl (z.natAbs * y)) c2,.bool (decide (0 < wl (z.natAbs * y)))]) (by simp [results,Tryz.results221,go_sem,k2,k3]) rfl ?_
  exact RetInt.box (A:=none) (n:=0) (c:=0) (q:=false) B0 sP (by rw [HQ.out.2]; exact hr) (by rw [HQ.out.1]; simp) (k2.trans sG) (k3.trans sG) _ _
theorem IsInt.parts {w:World} {v:Value} {z:Int} (h:IsInt w v z):∃ A n c,v = .agg #[.slice A n c,.bool (decide (z < 0))] /\ n = wl z.natAbs /\ IsNat w (.slice A n c) z.natAbs:=by
 obtain ⟨s,rfl,hs⟩:=h
 obtain ⟨A,n,c,rfl,hnn⟩:=hs.ex
 exact ⟨A,n,c,rfl,hnn,hs⟩
theorem mulI_any (v u:Value) (x y:Int) (w:World) (h:IsInt w v x) (h':IsInt w u y) (hn:wl x.natAbs + wl y.natAbs < 549755813888) :
  Calls Tryz.prog 223 #[v,u] w (RetInt w (x * y)):=by
 have hm:x * y = if decide (y < 0) then -(x * y.natAbs) else x * y.natAbs:=by
  by_cases hy:y < 0
  ·rw [decide_eq_true hy,if_pos rfl,Int.ofNat_natAbs_of_nonpos oM,Int.mul_neg,Int.neg_neg]
  ·rw [decide_eq_false hy,if_neg sP,Int.natAbs_of_nonneg oM]
 have HM:=hid hm.symm
 have HI:=hid h
 obtain ⟨A,n,c,rfl,-,-⟩:=h.parts
 obtain ⟨A',n',c',rfl,-,hs'⟩:=h'.parts
 have HS:=hid hs'
 have HN:=hid hn
 clear h h' hs' hn hm
 generalize decide (x < 0) = p at *
 generalize decide (y < 0) = q at *
 go_enter Tryz.func223,Tryz.ntmps223
 go_wp2_with fail
 have ne1:w.heap.size + 1 + 1 ≠ w.heap.size:=oM
 have ne2:w.heap.size ≠ w.heap.size + 1 + 1:=oM
 have B3:=hid ((bT (bT (below_alloc w (Obj.cells #[Value.slice A n c,Value.bool p] 47)) (below_alloc _ (Obj.cells #[Value.slice A' n' c',Value.bool q] 47))) (below_alloc _ (Obj.cells #[Value.slice none 0 0,Value.bool false] 47))).drew)
 go_region_held3 (fun w'=>w'.cell? ⟨w.heap.size,0,none⟩ = some (.slice A n c) /\ w'.cell? ⟨w.heap.size,1,none⟩ = some (.bool p) /\ w'.cell? ⟨w.heap.size + 1,0,none⟩ = some (.slice A' n' c') /\ w'.cell? ⟨w.heap.size + 1,1,none⟩ = some (.bool q)) (go_keep) (first | (go_at_call 221; refine (scaleI_any _ _ _ _ _ (HI.out.below B3.out) (HS.out.below B3.out) HN.out).mono ?_; rintro e W2 ⟨r,rfl,hr,hb2⟩; obtain ⟨A2,n2,c2,rfl,-,-⟩:=hr.parts; generalize decide (x * ↑y.natAbs < 0) = p2 at *; have hb2_00:=(hb2.cell (p:=⟨w.heap.size,0,none⟩) (by simp <;> omega)); have hb2_01:=(hb2.cell (p:=⟨w.heap.size,1,none⟩) (by simp <;> omega)); have hb2_10:=(hb2.cell (p:=⟨w.heap.size + 1,0,none⟩) (by simp <;> omega)); have hb2_11:=(hb2.cell (p:=⟨w.heap.size + 1,1,none⟩) (by simp <;> omega)); have hb2_20:=(hb2.cell (p:=⟨w.heap.size + 2,0,none⟩) (by simp <;> omega)); have hb2_21:=(hb2.cell (p:=⟨w.heap.size + 2,1,none⟩) (by simp <;> omega)); have hb2_f0:=(hb2.frozen (p:=⟨w.heap.size + 2,0,none⟩) (by simp <;> omega)); have hb2_f1:=(hb2.frozen (p:=⟨w.heap.size + 2,1,none⟩) (by simp <;> omega))) | (go_at_call 118; refine (signed_any _ _ _ _ hr).mono ?_; rintro e W3 ⟨r3,rfl,hr3,hb3⟩; rw [HM.out] at hr3; obtain ⟨A3,n3,c3,rfl,-,hs3⟩:=hr3.parts; generalize hq3:decide (x * y < 0) = q3 at *; have i00:=(hb3.cell (p:=⟨w.heap.size,0,none⟩) (lL (by simp <;> omega) hb2.size)); have i01:=(hb3.cell (p:=⟨w.heap.size,1,none⟩) (lL (by simp <;> omega) hb2.size)); have i10:=(hb3.cell (p:=⟨w.heap.size + 1,0,none⟩) (lL (by simp <;> omega) hb2.size)); have i11:=(hb3.cell (p:=⟨w.heap.size + 1,1,none⟩) (lL (by simp <;> omega) hb2.size)); have j0:=(hb3.cell (p:=⟨w.heap.size + 2,0,none⟩) (lL (by simp <;> omega) hb2.size)); have j1:=(hb3.cell (p:=⟨w.heap.size + 2,1,none⟩) (lL (by simp <;> omega) hb2.size)); have j2:=(hb3.frozen (p:=⟨w.heap.size + 2,0,none⟩) (lL (by simp <;> omega) hb2.size)); have j3:=(hb3.frozen (p:=⟨w.heap.size + 2,1,none⟩) (lL (by simp <;> omega) hb2.size))))
 go_wp2
 have B0:=bT (bT B3.out hb2) hb3
 have K2:W3.cell? ⟨w.heap.size + 1 + 1,0,none⟩ = some (.slice none 0 0):=j0.trans (hb2_20.trans sG)
 have K3:W3.cell? ⟨w.heap.size + 1 + 1,1,none⟩ = some (.bool false):=j1.trans (hb2_21.trans sG)
 refine bodyPost_ret (v:=.agg #[.slice A3 n3 c3,.bool q3]) (by simp [results,Tryz.results223,go_sem,K2,K3]) rfl ?_
 exact RetInt.box B0 oM hs3 hq3.symm K2 K3 _ _
theorem fromInt_any (z:Int) (w:World) (h1:-9223372036854775808 <= z) (h2:z < 9223372036854775808) :
  Calls Tryz.prog 116 #[.int .i64 z] w (RetInt w z):=by
 by_cases hz:z < 0
 ·obtain ⟨k,hk,rfl⟩:∃ k:Nat,0 < k /\ z = -(k:Int):=⟨z.natAbs,oM,oM⟩
  have hw:IntKind.u64.wrap (-IntKind.u64.wrap (-(k:Int))) = (k:Int):=by
   simp [IntKind.wrap,IntKind.bits,IntKind.signed]
   omega
  have hkk:k < 18446744073709551616:=oM
  have HF:=hid (fun W=>fromUint_any k W hkk)
  go_enter Tryz.func116,Tryz.ntmps116
  go_wp2_with (go_at_call 146; refine (HF.out _).mono ?_; rintro e W2 ⟨r,rfl,hr,hb2⟩; have k2:=(hb2.cell (p:=⟨w.heap.size,0,none⟩) sP); have k3:=(hb2.cell (p:=⟨w.heap.size,1,none⟩) sP); have k4:=(hb2.frozen (p:=⟨w.heap.size,0,none⟩) sP); have k5:=(hb2.frozen (p:=⟨w.heap.size,1,none⟩) sP); obtain ⟨A2,n2,c2,rfl,hnn2⟩:=hr.ex; clear hnn2)
  have B0:=bT (below_alloc _ _) hb2
  refine bodyPost_ret (v:=.agg #[.slice A2 n2 c2,.bool true]) (by simp [results,Tryz.results116,go_sem,k2,k3]) rfl ?_
  exact RetInt.box (A:=none) (n:=0) (c:=0) (q:=false) B0 sP (by rw [Int.natAbs_neg,Int.natAbs_natCast]; exact hr) sO (k2.trans sG) (k3.trans sG) _ _
 ·obtain ⟨k,rfl⟩:∃ k:Nat,z = (k:Int):=⟨z.natAbs,oM⟩
  have hw:IntKind.u64.wrap (k:Int) = (k:Int):=by
   simp [IntKind.wrap,IntKind.bits,IntKind.signed]
   omega
  have hk:k < 18446744073709551616:=oM
  have HF:=hid (fun W=>fromUint_any k W hk)
  go_enter Tryz.func116,Tryz.ntmps116
  go_wp2_with (go_at_call 146; refine (HF.out _).mono ?_; rintro e W2 ⟨r,rfl,hr,hb2⟩; have k2:=(hb2.cell (p:=⟨w.heap.size,0,none⟩) sP); have k3:=(hb2.cell (p:=⟨w.heap.size,1,none⟩) sP); have k4:=(hb2.frozen (p:=⟨w.heap.size,0,none⟩) sP); have k5:=(hb2.frozen (p:=⟨w.heap.size,1,none⟩) sP); obtain ⟨A2,n2,c2,rfl,hnn2⟩:=hr.ex; clear hnn2)
  have B0:=bT (below_alloc _ _) hb2
  refine bodyPost_ret (v:=.agg #[.slice A2 n2 c2,.bool false]) (by simp [results,Tryz.results116,go_sem,k2,k3]) rfl ?_
  exact RetInt.box (A:=none) (n:=0) (c:=0) (q:=false) B0 sP (by rw [Int.natAbs_natCast]; exact hr) sP (k2.trans sG) (k3.trans sG) _ _
theorem cmpN_lt {x y:Nat} (h:x < y):cmpN x y = -1:=by simp [cmpN,h]
theorem cmpN_eq {x y:Nat} (h:x = y):cmpN x y = 0:=by subst h; simp [cmpN]
theorem cmpN_gt {x y:Nat} (h:y < x):cmpN x y = 1:=by simp [cmpN]; omega
theorem addI_st (v u:Value) (x y:Int) (w:World) (h:IsInt w v x) (h':IsInt w u y) (hn:wl x.natAbs < 549755813888) (hm:wl y.natAbs < 549755813888)
  (hx:decide (x < 0) = true) (hy:decide (y < 0) = true) :
  Calls Tryz.prog 224 #[v,u] w (RetInt w (x + y)):=by
 obtain ⟨A,n,c,rfl,-,hs⟩:=h.parts
 obtain ⟨A',n',c',rfl,-,hs'⟩:=h'.parts
 have HE:=hid (fun W (hb:Below w.heap.size w W)=>add_any _ _ _ _ W (hs.below hb) (hs'.below hb) oM oM)
 have HV:=hid (show (x + y).natAbs = x.natAbs + y.natAbs /\ decide (x + y < 0) = true by simp at hx hy ⊢; omega)
 rw [hx,hy]
 clear h h' hs hs' hn hm hx hy
 go_enter Tryz.func224,Tryz.ntmps224
 go_wp2_with fail
 have ne1:w.heap.size + 1 + 1 ≠ w.heap.size:=oM
 have ne2:w.heap.size ≠ w.heap.size + 1 + 1:=oM
 have B3:=hid ((bT (bT (below_alloc w (Obj.cells #[Value.slice A n c,Value.bool true] 47)) (below_alloc _ (Obj.cells #[Value.slice A' n' c',Value.bool true] 47))) (below_alloc _ (Obj.cells #[Value.slice none 0 0,Value.bool false] 47))).drew)
 go_region_held3 (fun w'=>w'.cell? ⟨w.heap.size,0,none⟩ = some (.slice A n c) /\ w'.cell? ⟨w.heap.size,1,none⟩ = some (.bool true) /\ w'.cell? ⟨w.heap.size + 1,0,none⟩ = some (.slice A' n' c') /\ w'.cell? ⟨w.heap.size + 1,1,none⟩ = some (.bool true)) (go_keep) ((go_at_call 234; refine (HE.out _ ?_).mono ?_; (exact B3.out); rintro e W2 ⟨r,rfl,hr,hb2⟩; have hb2_00:=(hb2.cell (p:=⟨w.heap.size,0,none⟩) (by simp <;> omega)); have hb2_01:=(hb2.cell (p:=⟨w.heap.size,1,none⟩) (by simp <;> omega)); have hb2_10:=(hb2.cell (p:=⟨w.heap.size + 1,0,none⟩) (by simp <;> omega)); have hb2_11:=(hb2.cell (p:=⟨w.heap.size + 1,1,none⟩) (by simp <;> omega)); have hb2_20:=(hb2.cell (p:=⟨w.heap.size + 1 + 1,0,none⟩) (by simp <;> omega)); have hb2_21:=(hb2.cell (p:=⟨w.heap.size + 1 + 1,1,none⟩) (by simp <;> omega)); have hb2_f0:=(hb2.frozen (p:=⟨w.heap.size + 1 + 1,0,none⟩) (by simp <;> omega)); have hb2_f1:=(hb2.frozen (p:=⟨w.heap.size + 1 + 1,1,none⟩) (by simp <;> omega)); obtain ⟨A2,n2,c2,rfl,hnn2⟩:=hr.ex; clear hnn2))
 go_wp2
 have B0:=bT B3.out hb2
 have K2:W2.cell? ⟨w.heap.size + 1 + 1,0,none⟩ = some (.slice none 0 0):=hb2_20.trans sG
 have K3:W2.cell? ⟨w.heap.size + 1 + 1,1,none⟩ = some (.bool false):=hb2_21.trans sG
 refine bodyPost_ret (v:=.agg #[.slice A2 n2 c2,.bool true]) (by simp [results,Tryz.results224,go_sem,K2,K3]) rfl ?_
 exact RetInt.box B0 oM (by rw [HV.out.1]; exact hr) HV.out.2.symm K2 K3 _ _
theorem addI_sf (v u:Value) (x y:Int) (w:World) (h:IsInt w v x) (h':IsInt w u y) (hn:wl x.natAbs < 549755813888) (hm:wl y.natAbs < 549755813888)
  (hx:decide (x < 0) = false) (hy:decide (y < 0) = false) :
  Calls Tryz.prog 224 #[v,u] w (RetInt w (x + y)):=by
 obtain ⟨A,n,c,rfl,-,hs⟩:=h.parts
 obtain ⟨A',n',c',rfl,-,hs'⟩:=h'.parts
 have HE:=hid (fun W (hb:Below w.heap.size w W)=>add_any _ _ _ _ W (hs.below hb) (hs'.below hb) oM oM)
 have HV:=hid (show (x + y).natAbs = x.natAbs + y.natAbs /\ decide (x + y < 0) = false by simp at hx hy ⊢; omega)
 rw [hx,hy]
 clear h h' hs hs' hn hm hx hy
 go_enter Tryz.func224,Tryz.ntmps224
 go_wp2_with fail
 have ne1:w.heap.size + 1 + 1 ≠ w.heap.size:=oM
 have ne2:w.heap.size ≠ w.heap.size + 1 + 1:=oM
 have B3:=hid ((bT (bT (below_alloc w (Obj.cells #[Value.slice A n c,Value.bool false] 47)) (below_alloc _ (Obj.cells #[Value.slice A' n' c',Value.bool false] 47))) (below_alloc _ (Obj.cells #[Value.slice none 0 0,Value.bool false] 47))).drew)
 go_region_held3 (fun w'=>w'.cell? ⟨w.heap.size,0,none⟩ = some (.slice A n c) /\ w'.cell? ⟨w.heap.size,1,none⟩ = some (.bool false) /\ w'.cell? ⟨w.heap.size + 1,0,none⟩ = some (.slice A' n' c') /\ w'.cell? ⟨w.heap.size + 1,1,none⟩ = some (.bool false)) (go_keep) ((go_at_call 234; refine (HE.out _ ?_).mono ?_; (exact B3.out); rintro e W2 ⟨r,rfl,hr,hb2⟩; have hb2_00:=(hb2.cell (p:=⟨w.heap.size,0,none⟩) (by simp <;> omega)); have hb2_01:=(hb2.cell (p:=⟨w.heap.size,1,none⟩) (by simp <;> omega)); have hb2_10:=(hb2.cell (p:=⟨w.heap.size + 1,0,none⟩) (by simp <;> omega)); have hb2_11:=(hb2.cell (p:=⟨w.heap.size + 1,1,none⟩) (by simp <;> omega)); have hb2_20:=(hb2.cell (p:=⟨w.heap.size + 1 + 1,0,none⟩) (by simp <;> omega)); have hb2_21:=(hb2.cell (p:=⟨w.heap.size + 1 + 1,1,none⟩) (by simp <;> omega)); have hb2_f0:=(hb2.frozen (p:=⟨w.heap.size + 1 + 1,0,none⟩) (by simp <;> omega)); have hb2_f1:=(hb2.frozen (p:=⟨w.heap.size + 1 + 1,1,none⟩) (by simp <;> omega)); obtain ⟨A2,n2,c2,rfl,hnn2⟩:=hr.ex; clear hnn2))
 go_wp2
 have B0:=bT B3.out hb2
 have K2:W2.cell? ⟨w.heap.size + 1 + 1,0,none⟩ = some (.slice none 0 0):=hb2_20.trans sG
 have K3:W2.cell? ⟨w.heap.size + 1 + 1,1,none⟩ = some (.bool false):=hb2_21.trans sG
 refine bodyPost_ret (v:=.agg #[.slice A2 n2 c2,.bool false]) (by simp [results,Tryz.results224,go_sem,K2,K3]) rfl ?_
 exact RetInt.box B0 oM (by rw [HV.out.1]; exact hr) HV.out.2.symm K2 K3 _ _
theorem addI_dt (v u:Value) (x y:Int) (w:World) (h:IsInt w v x) (h':IsInt w u y) (hn:wl x.natAbs < 549755813888) (hm:wl y.natAbs < 549755813888)
  (hx:decide (x < 0) = true) (hy:decide (y < 0) = false) :
  Calls Tryz.prog 224 #[v,u] w (RetInt w (x + y)):=by
 obtain ⟨A,n,c,rfl,-,hs⟩:=h.parts
 obtain ⟨A',n',c',rfl,-,hs'⟩:=h'.parts
 have HC:=hid (fun W (hb:Below w.heap.size w W)=>compare_any _ _ _ _ W (hs.below hb) (hs'.below hb) oM oM)
 simp at hx hy
 rcases Nat.lt_trichotomy x.natAbs y.natAbs with hl | hl | hl
 ·rw [cmpN_lt hl] at HC
  have HE:=hid (fun W (hb:Below w.heap.size w W)=>sub_any _ _ _ _ W (hs'.below hb) (hs.below hb) oM oM)
  have HV:=hid (show (x + y).natAbs = y.natAbs - x.natAbs /\ decide (x + y < 0) = false by simp; omega)
  have hx':decide (x < 0) = true:=sO
  have hy':decide (y < 0) = false:=sO
  rw [hx',hy']
  clear h h' hs hs' hn hm hx hy hx' hy' hl
  go_enter Tryz.func224,Tryz.ntmps224
  go_wp2_with (first | (go_at_call 104; refine (HC.out _ (bT (bT (below_alloc _ _) (below_alloc _ _)) (below_alloc _ _))).mono ?_; rintro e w' ⟨rfl,q,rfl⟩) | fail)
  have ne1:w.heap.size + 1 + 1 ≠ w.heap.size:=oM
  have ne2:w.heap.size ≠ w.heap.size + 1 + 1:=oM
  go_region_held3 (fun w'=>w'.cell? ⟨w.heap.size,0,none⟩ = some (.slice A n c) /\ w'.cell? ⟨w.heap.size,1,none⟩ = some (.bool true) /\ w'.cell? ⟨w.heap.size + 1,0,none⟩ = some (.slice A' n' c') /\ w'.cell? ⟨w.heap.size + 1,1,none⟩ = some (.bool false)) (go_keep) ((go_at_call 235; refine (HE.out _ ?_).mono ?_; (exact ((bT (bT (bT (below_alloc _ _) (below_alloc _ _)) (below_alloc _ _)) (below_drewN _ _)).drew)); rintro e W2 ⟨r,rfl,hr,hb2⟩; have hb2_00:=(hb2.cell (p:=⟨w.heap.size,0,none⟩) (by simp <;> omega)); have hb2_01:=(hb2.cell (p:=⟨w.heap.size,1,none⟩) (by simp <;> omega)); have hb2_10:=(hb2.cell (p:=⟨w.heap.size + 1,0,none⟩) (by simp <;> omega)); have hb2_11:=(hb2.cell (p:=⟨w.heap.size + 1,1,none⟩) (by simp <;> omega)); have hb2_20:=(hb2.cell (p:=⟨w.heap.size + 1 + 1,0,none⟩) (by simp <;> omega)); have hb2_21:=(hb2.cell (p:=⟨w.heap.size + 1 + 1,1,none⟩) (by simp <;> omega)); have hb2_f0:=(hb2.frozen (p:=⟨w.heap.size + 1 + 1,0,none⟩) (by simp <;> omega)); have hb2_f1:=(hb2.frozen (p:=⟨w.heap.size + 1 + 1,1,none⟩) (by simp <;> omega)); obtain ⟨A2,n2,c2,rfl,hnn2⟩:=hr.ex; clear hnn2))
  go_wp2
  have B0:=bT ((bT (bT (bT (below_alloc _ _) (below_alloc _ _)) (below_alloc _ _)) (below_drewN _ _)).drew) hb2
  have K2:W2.cell? ⟨w.heap.size + 1 + 1,0,none⟩ = some (.slice none 0 0):=hb2_20.trans sG
  have K3:W2.cell? ⟨w.heap.size + 1 + 1,1,none⟩ = some (.bool false):=hb2_21.trans sG
  refine bodyPost_ret (v:=.agg #[.slice A2 n2 c2,.bool false]) (by simp [results,Tryz.results224,go_sem,K2,K3]) rfl ?_
  exact RetInt.box B0 oM (by rw [HV.out.1]; exact hr) HV.out.2.symm K2 K3 _ _
 ·rw [cmpN_eq hl] at HC
  have HV:=hid (show x + y = 0 by omega)
  have hx':decide (x < 0) = true:=sO
  have hy':decide (y < 0) = false:=sO
  rw [hx',hy']
  clear h h' hs hs' hn hm hx hy hx' hy' hl
  go_enter Tryz.func224,Tryz.ntmps224
  go_wp2_with (first | (go_at_call 104; refine (HC.out _ (bT (bT (below_alloc _ _) (below_alloc _ _)) (below_alloc _ _))).mono ?_; rintro e w' ⟨rfl,q,rfl⟩) | fail)
  refine bodyPost_ret (v:=.agg #[.slice none 0 0,.bool false]) (by simp [results,Tryz.results224,go_sem]) rfl ?_
  rw [HV.out]
  exact RetInt.box (A:=none) (n:=0) (c:=0) (q:=false) (bT (bT (bT (below_alloc _ _) (below_alloc _ _)) (below_alloc _ _)) (below_drewN _ _)) oM (IsNat.zero _ _ _) rfl sG sG _ _
 ·rw [cmpN_gt hl] at HC
  have HE:=hid (fun W (hb:Below w.heap.size w W)=>sub_any _ _ _ _ W (hs.below hb) (hs'.below hb) oM oM)
  have HV:=hid (show (x + y).natAbs = x.natAbs - y.natAbs /\ decide (x + y < 0) = true by simp; omega)
  have hx':decide (x < 0) = true:=sO
  have hy':decide (y < 0) = false:=sO
  rw [hx',hy']
  clear h h' hs hs' hn hm hx hy hx' hy' hl
  go_enter Tryz.func224,Tryz.ntmps224
  go_wp2_with (first | (go_at_call 104; refine (HC.out _ (bT (bT (below_alloc _ _) (below_alloc _ _)) (below_alloc _ _))).mono ?_; rintro e w' ⟨rfl,q,rfl⟩) | fail)
  have ne1:w.heap.size + 1 + 1 ≠ w.heap.size:=oM
  have ne2:w.heap.size ≠ w.heap.size + 1 + 1:=oM
  go_region_held3 (fun w'=>w'.cell? ⟨w.heap.size,0,none⟩ = some (.slice A n c) /\ w'.cell? ⟨w.heap.size,1,none⟩ = some (.bool true) /\ w'.cell? ⟨w.heap.size + 1,0,none⟩ = some (.slice A' n' c') /\ w'.cell? ⟨w.heap.size + 1,1,none⟩ = some (.bool false)) (go_keep) ((go_at_call 235; refine (HE.out _ ?_).mono ?_; (exact ((bT (bT (bT (below_alloc _ _) (below_alloc _ _)) (below_alloc _ _)) (below_drewN _ _)).drew)); rintro e W2 ⟨r,rfl,hr,hb2⟩; have hb2_00:=(hb2.cell (p:=⟨w.heap.size,0,none⟩) (by simp <;> omega)); have hb2_01:=(hb2.cell (p:=⟨w.heap.size,1,none⟩) (by simp <;> omega)); have hb2_10:=(hb2.cell (p:=⟨w.heap.size + 1,0,none⟩) (by simp <;> omega)); have hb2_11:=(hb2.cell (p:=⟨w.heap.size + 1,1,none⟩) (by simp <;> omega)); have hb2_20:=(hb2.cell (p:=⟨w.heap.size + 1 + 1,0,none⟩) (by simp <;> omega)); have hb2_21:=(hb2.cell (p:=⟨w.heap.size + 1 + 1,1,none⟩) (by simp <;> omega)); have hb2_f0:=(hb2.frozen (p:=⟨w.heap.size + 1 + 1,0,none⟩) (by simp <;> omega)); have hb2_f1:=(hb2.frozen (p:=⟨w.heap.size + 1 + 1,1,none⟩) (by simp <;> omega)); obtain ⟨A2,n2,c2,rfl,hnn2⟩:=hr.ex; clear hnn2))
  go_wp2
  have B0:=bT ((bT (bT (bT (below_alloc _ _) (below_alloc _ _)) (below_alloc _ _)) (below_drewN _ _)).drew) hb2
  have K2:W2.cell? ⟨w.heap.size + 1 + 1,0,none⟩ = some (.slice none 0 0):=hb2_20.trans sG
  have K3:W2.cell? ⟨w.heap.size + 1 + 1,1,none⟩ = some (.bool false):=hb2_21.trans sG
  refine bodyPost_ret (v:=.agg #[.slice A2 n2 c2,.bool true]) (by simp [results,Tryz.results224,go_sem,K2,K3]) rfl ?_
  exact RetInt.box B0 oM (by rw [HV.out.1]; exact hr) HV.out.2.symm K2 K3 _ _
theorem addI_df (v u:Value) (x y:Int) (w:World) (h:IsInt w v x) (h':IsInt w u y) (hn:wl x.natAbs < 549755813888) (hm:wl y.natAbs < 549755813888)
  (hx:decide (x < 0) = false) (hy:decide (y < 0) = true) :
  Calls Tryz.prog 224 #[v,u] w (RetInt w (x + y)):=by
 obtain ⟨A,n,c,rfl,-,hs⟩:=h.parts
 obtain ⟨A',n',c',rfl,-,hs'⟩:=h'.parts
 have HC:=hid (fun W (hb:Below w.heap.size w W)=>compare_any _ _ _ _ W (hs.below hb) (hs'.below hb) oM oM)
 simp at hx hy
 rcases Nat.lt_trichotomy x.natAbs y.natAbs with hl | hl | hl
 ·rw [cmpN_lt hl] at HC
  have HE:=hid (fun W (hb:Below w.heap.size w W)=>sub_any _ _ _ _ W (hs'.below hb) (hs.below hb) oM oM)
  have HV:=hid (show (x + y).natAbs = y.natAbs - x.natAbs /\ decide (x + y < 0) = true by simp; omega)
  have hx':decide (x < 0) = false:=sO
  have hy':decide (y < 0) = true:=sO
  rw [hx',hy']
  clear h h' hs hs' hn hm hx hy hx' hy' hl
  go_enter Tryz.func224,Tryz.ntmps224
  go_wp2_with (first | (go_at_call 104; refine (HC.out _ (bT (bT (below_alloc _ _) (below_alloc _ _)) (below_alloc _ _))).mono ?_; rintro e w' ⟨rfl,q,rfl⟩) | fail)
  have ne1:w.heap.size + 1 + 1 ≠ w.heap.size:=oM
  have ne2:w.heap.size ≠ w.heap.size + 1 + 1:=oM
  go_region_held3 (fun w'=>w'.cell? ⟨w.heap.size,0,none⟩ = some (.slice A n c) /\ w'.cell? ⟨w.heap.size,1,none⟩ = some (.bool false) /\ w'.cell? ⟨w.heap.size + 1,0,none⟩ = some (.slice A' n' c') /\ w'.cell? ⟨w.heap.size + 1,1,none⟩ = some (.bool true)) (go_keep) ((go_at_call 235; refine (HE.out _ ?_).mono ?_; (exact ((bT (bT (bT (below_alloc _ _) (below_alloc _ _)) (below_alloc _ _)) (below_drewN _ _)).drew)); rintro e W2 ⟨r,rfl,hr,hb2⟩; have hb2_00:=(hb2.cell (p:=⟨w.heap.size,0,none⟩) (by simp <;> omega)); have hb2_01:=(hb2.cell (p:=⟨w.heap.size,1,none⟩) (by simp <;> omega)); have hb2_10:=(hb2.cell (p:=⟨w.heap.size + 1,0,none⟩) (by simp <;> omega)); have hb2_11:=(hb2.cell (p:=⟨w.heap.size + 1,1,none⟩) (by simp <;> omega)); have hb2_20:=(hb2.cell (p:=⟨w.heap.size + 1 + 1,0,none⟩) (by simp <;> omega)); have hb2_21:=(hb2.cell (p:=⟨w.heap.size + 1 + 1,1,none⟩) (by simp <;> omega)); have hb2_f0:=(hb2.frozen (p:=⟨w.heap.size + 1 + 1,0,none⟩) (by simp <;> omega)); have hb2_f1:=(hb2.frozen (p:=⟨w.heap.size + 1 + 1,1,none⟩) (by simp <;> omega)); obtain ⟨A2,n2,c2,rfl,hnn2⟩:=hr.ex; clear hnn2))
  go_wp2
  have B0:=bT ((bT (bT (bT (below_alloc _ _) (below_alloc _ _)) (below_alloc _ _)) (below_drewN _ _)).drew) hb2
  have K2:W2.cell? ⟨w.heap.size + 1 + 1,0,none⟩ = some (.slice none 0 0):=hb2_20.trans sG
  have K3:W2.cell? ⟨w.heap.size + 1 + 1,1,none⟩ = some (.bool false):=hb2_21.trans sG
  refine bodyPost_ret (v:=.agg #[.slice A2 n2 c2,.bool true]) (by simp [results,Tryz.results224,go_sem,K2,K3]) rfl ?_
  exact RetInt.box B0 oM (by rw [HV.out.1]; exact hr) HV.out.2.symm K2 K3 _ _
 ·rw [cmpN_eq hl] at HC
  have HV:=hid (show x + y = 0 by omega)
  have hx':decide (x < 0) = false:=sO
  have hy':decide (y < 0) = true:=sO
  rw [hx',hy']
  clear h h' hs hs' hn hm hx hy hx' hy' hl
  go_enter Tryz.func224,Tryz.ntmps224
  go_wp2_with (first | (go_at_call 104; refine (HC.out _ (bT (bT (below_alloc _ _) (below_alloc _ _)) (below_alloc _ _))).mono ?_; rintro e w' ⟨rfl,q,rfl⟩) | fail)
  refine bodyPost_ret (v:=.agg #[.slice none 0 0,.bool false]) (by simp [results,Tryz.results224,go_sem]) rfl ?_
  rw [HV.out]
  exact RetInt.box (A:=none) (n:=0) (c:=0) (q:=false) (bT (bT (bT (below_alloc _ _) (below_alloc _ _)) (below_alloc _ _)) (below_drewN _ _)) oM (IsNat.zero _ _ _) rfl sG sG _ _
 ·rw [cmpN_gt hl] at HC
  have HE:=hid (fun W (hb:Below w.heap.size w W)=>sub_any _ _ _ _ W (hs.below hb) (hs'.below hb) oM oM)
  have HV:=hid (show (x + y).natAbs = x.natAbs - y.natAbs /\ decide (x + y < 0) = false by simp; omega)
  have hx':decide (x < 0) = false:=sO
  have hy':decide (y < 0) = true:=sO
  rw [hx',hy']
  clear h h' hs hs' hn hm hx hy hx' hy' hl
  go_enter Tryz.func224,Tryz.ntmps224
  go_wp2_with (first | (go_at_call 104; refine (HC.out _ (bT (bT (below_alloc _ _) (below_alloc _ _)) (below_alloc _ _))).mono ?_; rintro e w' ⟨rfl,q,rfl⟩) | fail)
  have ne1:w.heap.size + 1 + 1 ≠ w.heap.size:=oM
  have ne2:w.heap.size ≠ w.heap.size + 1 + 1:=oM
  go_region_held3 (fun w'=>w'.cell? ⟨w.heap.size,0,none⟩ = some (.slice A n c) /\ w'.cell? ⟨w.heap.size,1,none⟩ = some (.bool false) /\ w'.cell? ⟨w.heap.size + 1,0,none⟩ = some (.slice A' n' c') /\ w'.cell? ⟨w.heap.size + 1,1,none⟩ = some (.bool true)) (go_keep) ((go_at_call 235; refine (HE.out _ ?_).mono ?_; (exact ((bT (bT (bT (below_alloc _ _) (below_alloc _ _)) (below_alloc _ _)) (below_drewN _ _)).drew)); rintro e W2 ⟨r,rfl,hr,hb2⟩; have hb2_00:=(hb2.cell (p:=⟨w.heap.size,0,none⟩) (by simp <;> omega)); have hb2_01:=(hb2.cell (p:=⟨w.heap.size,1,none⟩) (by simp <;> omega)); have hb2_10:=(hb2.cell (p:=⟨w.heap.size + 1,0,none⟩) (by simp <;> omega)); have hb2_11:=(hb2.cell (p:=⟨w.heap.size + 1,1,none⟩) (by simp <;> omega)); have hb2_20:=(hb2.cell (p:=⟨w.heap.size + 1 + 1,0,none⟩) (by simp <;> omega)); have hb2_21:=(hb2.cell (p:=⟨w.heap.size + 1 + 1,1,none⟩) (by simp <;> omega)); have hb2_f0:=(hb2.frozen (p:=⟨w.heap.size + 1 + 1,0,none⟩) (by simp <;> omega)); have hb2_f1:=(hb2.frozen (p:=⟨w.heap.size + 1 + 1,1,none⟩) (by simp <;> omega)); obtain ⟨A2,n2,c2,rfl,hnn2⟩:=hr.ex; clear hnn2))
  go_wp2
  have B0:=bT ((bT (bT (bT (below_alloc _ _) (below_alloc _ _)) (below_alloc _ _)) (below_drewN _ _)).drew) hb2
  have K2:W2.cell? ⟨w.heap.size + 1 + 1,0,none⟩ = some (.slice none 0 0):=hb2_20.trans sG
  have K3:W2.cell? ⟨w.heap.size + 1 + 1,1,none⟩ = some (.bool false):=hb2_21.trans sG
  refine bodyPost_ret (v:=.agg #[.slice A2 n2 c2,.bool false]) (by simp [results,Tryz.results224,go_sem,K2,K3]) rfl ?_
  exact RetInt.box B0 oM (by rw [HV.out.1]; exact hr) HV.out.2.symm K2 K3 _ _
theorem addI_any (v u:Value) (x y:Int) (w:World) (h:IsInt w v x) (h':IsInt w u y) (hn:wl x.natAbs < 549755813888) (hm:wl y.natAbs < 549755813888) :
  Calls Tryz.prog 224 #[v,u] w (RetInt w (x + y)):=by
 cases hx:decide (x < 0) <;> cases hy:decide (y < 0)
 ·exact addI_sf v u x y w h h' hn hm hx hy
 ·exact addI_df v u x y w h h' hn hm hx hy
 ·exact addI_dt v u x y w h h' hn hm hx hy
 ·exact addI_st v u x y w h h' hn hm hx hy
theorem subI_any (v u:Value) (x y:Int) (w:World) (h:IsInt w v x) (h':IsInt w u y) (hn:wl x.natAbs < 549755813888) (hm:wl y.natAbs < 549755813888) :
  Calls Tryz.prog 236 #[v,u] w (RetInt w (x - y)):=by
 have HI:=hid h
 have HI':=hid h'
 have hm':wl (-y).natAbs < 549755813888:=by rw [Int.natAbs_neg]; exact hm
 obtain ⟨A,n,c,rfl,-,-⟩:=h.parts
 obtain ⟨A',n',c',rfl,-,-⟩:=h'.parts
 clear h h'
 generalize decide (x < 0) = p at *
 generalize decide (y < 0) = q at *
 go_enter Tryz.func236,Tryz.ntmps236
 go_wp2_with fail
 have ne1:w.heap.size + 1 + 1 ≠ w.heap.size:=oM
 have ne2:w.heap.size ≠ w.heap.size + 1 + 1:=oM
 have B3:=hid ((bT (bT (below_alloc w (Obj.cells #[Value.slice A n c,Value.bool p] 47)) (below_alloc _ (Obj.cells #[Value.slice A' n' c',Value.bool q] 47))) (below_alloc _ (Obj.cells #[Value.slice none 0 0,Value.bool false] 47))).drew)
 go_region_held3 (fun w'=>w'.cell? ⟨w.heap.size,0,none⟩ = some (.slice A n c) /\ w'.cell? ⟨w.heap.size,1,none⟩ = some (.bool p) /\ w'.cell? ⟨w.heap.size + 1,0,none⟩ = some (.slice A' n' c') /\ w'.cell? ⟨w.heap.size + 1,1,none⟩ = some (.bool q)) (go_keep) (first | (go_at_call 159; refine (neg_any _ _ _ (HI'.out.below B3.out)).mono ?_; rintro e W2 ⟨r,rfl,hr,hb2⟩; obtain ⟨A2,n2,c2,rfl,-,-⟩:=hr.parts; generalize decide (-y < 0) = p2 at *; have hb2_00:=(hb2.cell (p:=⟨w.heap.size,0,none⟩) (by simp <;> omega)); have hb2_01:=(hb2.cell (p:=⟨w.heap.size,1,none⟩) (by simp <;> omega)); have hb2_10:=(hb2.cell (p:=⟨w.heap.size + 1,0,none⟩) (by simp <;> omega)); have hb2_11:=(hb2.cell (p:=⟨w.heap.size + 1,1,none⟩) (by simp <;> omega)); have hb2_20:=(hb2.cell (p:=⟨w.heap.size + 2,0,none⟩) (by simp <;> omega)); have hb2_21:=(hb2.cell (p:=⟨w.heap.size + 2,1,none⟩) (by simp <;> omega)); have hb2_f0:=(hb2.frozen (p:=⟨w.heap.size + 2,0,none⟩) (by simp <;> omega)); have hb2_f1:=(hb2.frozen (p:=⟨w.heap.size + 2,1,none⟩) (by simp <;> omega))) | (go_at_call 224; refine (addI_any _ _ _ _ _ ((HI.out.below B3.out).below hb2) hr hn hm').mono ?_; rintro e W3 ⟨r3,rfl,hr3,hb3⟩; rw [<- Int.sub_eq_add_neg] at hr3; obtain ⟨A3,n3,c3,rfl,-,hs3⟩:=hr3.parts; generalize hq3:decide (x - y < 0) = q3 at *; have i00:=(hb3.cell (p:=⟨w.heap.size,0,none⟩) (lL (by simp <;> omega) hb2.size)); have i01:=(hb3.cell (p:=⟨w.heap.size,1,none⟩) (lL (by simp <;> omega) hb2.size)); have i10:=(hb3.cell (p:=⟨w.heap.size + 1,0,none⟩) (lL (by simp <;> omega) hb2.size)); have i11:=(hb3.cell (p:=⟨w.heap.size + 1,1,none⟩) (lL (by simp <;> omega) hb2.size)); have j0:=(hb3.cell (p:=⟨w.heap.size + 2,0,none⟩) (lL (by simp <;> omega) hb2.size)); have j1:=(hb3.cell (p:=⟨w.heap.size + 2,1,none⟩) (lL (by simp <;> omega) hb2.size)); have j2:=(hb3.frozen (p:=⟨w.heap.size + 2,0,none⟩) (lL (by simp <;> omega) hb2.size)); have j3:=(hb3.frozen (p:=⟨w.heap.size + 2,1,none⟩) (lL (by simp <;> omega) hb2.size))))
 go_wp2
 have B0:=bT (bT B3.out hb2) hb3
 have K2:W3.cell? ⟨w.heap.size + 1 + 1,0,none⟩ = some (.slice none 0 0):=j0.trans (hb2_20.trans sG)
 have K3:W3.cell? ⟨w.heap.size + 1 + 1,1,none⟩ = some (.bool false):=j1.trans (hb2_21.trans sG)
 refine bodyPost_ret (v:=.agg #[.slice A3 n3 c3,.bool q3]) (by simp [results,Tryz.results236,go_sem,K2,K3]) rfl ?_
 exact RetInt.box B0 oM hs3 hq3.symm K2 K3 _ _
end Go.Proofs.YtjodlmanheeajaaGreatDoor
