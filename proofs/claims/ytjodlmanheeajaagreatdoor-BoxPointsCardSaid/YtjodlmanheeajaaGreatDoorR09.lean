import Derived.BigRegion
import Derived.RegionTactic
import Derived.Test.YtjodlmanheeajaaGreatDoorR01
import Derived.Test.YtjodlmanheeajaaGreatDoorR08
import Derived.Test.YtjodlmanheeajaaGreatDoorR02
set_option linter.unusedVariables false
set_option linter.unusedSimpArgs false
set_option maxRecDepth 100000
set_option maxHeartbeats 8000000
namespace Go.Proofs.YtjodlmanheeajaaGreatDoor
open Go.RowKit
structure Euc (w:World) (B p N n gx gy ga gb ka kb:Nat) (fx fy fa fb:Nat -> Nat):Prop where
 cell:∃ T,w.heap[p]? = some (.cells #[.slice (some ⟨gx,0,none⟩) n N,.slice (some ⟨gy,0,none⟩) n N,.slice (some ⟨ga,0,none⟩) ka N,.slice (some ⟨gb,0,none⟩) kb N] T (0,0))
 rx:Row w gx N fx
 ry:Row w gy N fy
 ra:Row w ga N fa
 rb:Row w gb N fb
 wx:Wd fx n
 wy:Wd fy n
 nN:n <= N
 na:n <= ka
 nb:n <= kb
 aN:ka <= N
 bN:kb <= N
 d1:gx ≠ gy
 d2:gx ≠ ga
 d3:gx ≠ gb
 d4:gy ≠ ga
 d5:gy ≠ gb
 d6:ga ≠ gb
 p1:p ≠ gx
 p2:p ≠ gy
 p3:p ≠ ga
 p4:p ≠ gb
 B1:B <= gx
 B2:B <= gy
 B3:B <= ga
 B4:B <= gb
 B5:B <= p
theorem Euc.field {w:World} {B p N n gx gy ga gb ka kb:Nat} {fx fy fa fb:Nat -> Nat} (h:Euc w B p N n gx gy ga gb ka kb fx fy fa fb) :
  (w.cell? ⟨p,0,none⟩ = some (.slice (some ⟨gx,0,none⟩) n N) /\ w.cell? ⟨p,1,none⟩ = some (.slice (some ⟨gy,0,none⟩) n N) /\
  w.cell? ⟨p,2,none⟩ = some (.slice (some ⟨ga,0,none⟩) ka N) /\ w.cell? ⟨p,3,none⟩ = some (.slice (some ⟨gb,0,none⟩) kb N)) /\ (∀ j,w.frozen? ⟨p,j,none⟩ = false) /\ p < w.heap.size:=by
 obtain ⟨T,hT⟩:=h.cell
 refine ⟨⟨?_,?_,?_,?_⟩,fun j=>by simp [World.frozen?,hT],?_⟩
 ·rw [cell_of_row w p 0 _ T (0,0) hT]; rfl
 ·rw [cell_of_row w p 1 _ T (0,0) hT]; rfl
 ·rw [cell_of_row w p 2 _ T (0,0) hT]; rfl
 ·rw [cell_of_row w p 3 _ T (0,0) hT]; rfl
 ·rcases Nat.lt_or_ge p w.heap.size with hlt | hge
  ·exact hlt
  ·rw [Array.getElem?_eq_none hge] at hT; cases hT
theorem Row.keep_set {w:World} {g n:Nat} {f:Nat -> Nat} (h:Row w g n f) {p:Nat} (hne:p ≠ g) (i:Nat) (v:Value):Row (w.setCell ⟨p,i,none⟩ v) g n f :=
 h.keep (Below.heap_setCell _ _ _ _ (fun e=>hne e.symm))
theorem heap_set_cells {w:World} {p:Nat} {cs:Array Value} {T:TypeId} (h:w.heap[p]? = some (.cells cs T (0,0))) (i:Nat) (v:Value):(w.setCell ⟨p,i,none⟩ v).heap[p]? = some (.cells (cs.setIfInBounds i v) T (0,0)):=by
 simp [World.setCell,Array.getElem?_modify,h]
theorem Euc.below {w w':World} {B p N n gx gy ga gb ka kb:Nat} {fx fy fa fb:Nat -> Nat} (h:Euc w B p N n gx gy ga gb ka kb fx fy fa fb) (hb:Below w.heap.size w w'):Euc w' B p N n gx gy ga gb ka kb fx fy fa fb:=by
 have hp:=h.field.2.2
 obtain ⟨T,hT⟩:=h.cell
 exact { h with cell:=⟨T,(hb.block p hp).trans hT⟩,rx:=h.rx.below hb h.rx.lt,ry:=h.ry.below hb h.ry.lt,ra:=h.ra.below hb h.ra.lt,rb:=h.rb.below hb h.rb.lt }
theorem Euc.cut {w:World} {B p N n gx gy ga gb ka kb:Nat} {fx fy fa fb:Nat -> Nat} (h:Euc w B p N n gx gy ga gb ka kb fx fy fa fb) :
  Euc ((w.setCell ⟨p,2,none⟩ (.slice (some ⟨ga,0,none⟩) n N)).setCell ⟨p,3,none⟩ (.slice (some ⟨gb,0,none⟩) n N)) B p N n gx gy ga gb n n fx fy fa fb:=by
 obtain ⟨T,hT⟩:=h.cell
 exact { h with
  cell:=⟨T,heap_set_cells (heap_set_cells hT _ _) _ _⟩
  rx:=(h.rx.keep_set h.p1 _ _).keep_set h.p1 _ _
  ry:=(h.ry.keep_set h.p2 _ _).keep_set h.p2 _ _
  ra:=(h.ra.keep_set h.p3 _ _).keep_set h.p3 _ _
  rb:=(h.rb.keep_set h.p4 _ _).keep_set h.p4 _ _
  na:=Nat.le_refl n,nb:=Nat.le_refl n,aN:=h.nN,bN:=h.nN }
theorem Euc.wroteA {w w':World} {B p N n gx gy ga gb ka kb:Nat} {fx fy fa fb f':Nat -> Nat} (h:Euc w B p N n gx gy ga gb ka kb fx fy fa fb) (hg:w.grownBy w' (some ga)) (hr:Row w' ga N f') :
  Euc w' B p N n gx gy ga gb ka kb fx fy f' fb:=by
 have hp:=h.field.2.2
 obtain ⟨T,hT⟩:=h.cell
 exact { h with cell:=⟨T,(hg.block p hp (by simpa using h.p3)).trans hT⟩,rx:=h.rx.grown hg (by simpa using h.d2),ry:=h.ry.grown hg (by simpa using h.d4),ra:=hr,rb:=h.rb.grown hg (by simpa using (fun e=>h.d6 e.symm)) }
theorem Euc.wroteB {w w':World} {B p N n gx gy ga gb ka kb:Nat} {fx fy fa fb f':Nat -> Nat} (h:Euc w B p N n gx gy ga gb ka kb fx fy fa fb) (hg:w.grownBy w' (some gb)) (hr:Row w' gb N f') :
  Euc w' B p N n gx gy ga gb ka kb fx fy fa f':=by
 have hp:=h.field.2.2
 obtain ⟨T,hT⟩:=h.cell
 exact { h with cell:=⟨T,(hg.block p hp (by simpa using h.p4)).trans hT⟩,rx:=h.rx.grown hg (by simpa using h.d3),ry:=h.ry.grown hg (by simpa using h.d5),ra:=h.ra.grown hg (by simpa using h.d6),rb:=hr }
theorem Euc.swap {w:World} {B p N n gx gy ga gb:Nat} {fx fy fa fb:Nat -> Nat} (h:Euc w B p N n gx gy ga gb n n fx fy fa fb) (wa:Wd fa n) (wb:Wd fb n) :
  Euc ((((w.setCell ⟨p,0,none⟩ (.slice (some ⟨ga,0,none⟩) n N)).setCell ⟨p,1,none⟩ (.slice (some ⟨gb,0,none⟩) n N)).setCell ⟨p,2,none⟩ (.slice (some ⟨gx,0,none⟩) n N)).setCell ⟨p,3,none⟩ (.slice (some ⟨gy,0,none⟩) n N)) B p N n ga gb gx gy n n fa fb fx fy:=by
 obtain ⟨T,hT⟩:=h.cell
 exact {
  cell:=⟨T,heap_set_cells (heap_set_cells (heap_set_cells (heap_set_cells hT _ _) _ _) _ _) _ _⟩
  rx:=(((h.ra.keep_set h.p3 _ _).keep_set h.p3 _ _).keep_set h.p3 _ _).keep_set h.p3 _ _
  ry:=(((h.rb.keep_set h.p4 _ _).keep_set h.p4 _ _).keep_set h.p4 _ _).keep_set h.p4 _ _
  ra:=(((h.rx.keep_set h.p1 _ _).keep_set h.p1 _ _).keep_set h.p1 _ _).keep_set h.p1 _ _
  rb:=(((h.ry.keep_set h.p2 _ _).keep_set h.p2 _ _).keep_set h.p2 _ _).keep_set h.p2 _ _
  wx:=wa,wy:=wb,nN:=h.nN,na:=Nat.le_refl n,nb:=Nat.le_refl n,aN:=h.nN,bN:=h.nN
  d1:=h.d6,d2:=fun e=>h.d2 e.symm,d3:=fun e=>h.d4 e.symm,d4:=fun e=>h.d3 e.symm,d5:=fun e=>h.d5 e.symm,d6:=h.d1
  p1:=h.p3,p2:=h.p4,p3:=h.p1,p4:=h.p2,B1:=h.B3,B2:=h.B4,B3:=h.B1,B4:=h.B2,B5:=h.B5 }
theorem Euc.short {w:World} {B p N n m gx gy ga gb:Nat} {fx fy fa fb:Nat -> Nat} (h:Euc w B p N n gx gy ga gb n n fx fy fa fb) (hm:m <= n) :
  Euc ((w.setCell ⟨p,0,none⟩ (.slice (some ⟨gx,0,none⟩) m N)).setCell ⟨p,1,none⟩ (.slice (some ⟨gy,0,none⟩) m N)) B p N m gx gy ga gb n n fx fy fa fb:=by
 obtain ⟨T,hT⟩:=h.cell
 have:=h.nN
 exact { h with
  cell:=⟨T,heap_set_cells (heap_set_cells hT _ _) _ _⟩
  rx:=(h.rx.keep_set h.p1 _ _).keep_set h.p1 _ _
  ry:=(h.ry.keep_set h.p2 _ _).keep_set h.p2 _ _
  ra:=(h.ra.keep_set h.p3 _ _).keep_set h.p3 _ _
  rb:=(h.rb.keep_set h.p4 _ _).keep_set h.p4 _ _
  wx:=h.wx.mono hm,wy:=h.wy.mono hm,nN:=by omega,na:=hm,nb:=hm,aN:=h.nN,bN:=h.nN }
theorem leap_any (w:World) (B p N n gx gy ga gb ka kb u0 v0 u1 v1 X Y:Nat) (fx fy fa fb:Nat -> Nat) (h:Euc w B p N n gx gy ga gb ka kb fx fy fa fb) (hN:N <= 549755813888)
  (hu0:u0 < 4294967296) (hv0:v0 < 4294967296) (hu1:u1 < 4294967296) (hv1:v1 < 4294967296)
  (h1:vs fy n * v0 <= vs fx n * u0) (h2:vs fx n * u1 <= vs fy n * v1) (hX:vs fx n * u0 - vs fy n * v0 = X) (hY:vs fy n * v1 - vs fx n * u1 = Y) (hle:Y <= X) (hlt:X < 4294967296 ^ n) :
  Calls Tryz.prog 245 #[.pointer (some ⟨p,0,none⟩),.agg #[.int .u32 (u0:Int),.int .u32 (u1:Int),.int .u32 (v0:Int),.int .u32 (v1:Int),.bool true]] w fun e w'=>e = .returned (.tuple #[]) /\
   ∃ fx' fy',Euc w' B p N (wl X) ga gb gx gy n n fx' fy' fx fy /\ vs fx' (wl X) = X /\ vs fy' (wl X) = Y /\ Below B w w':=by
 obtain ⟨⟨c0,c1,c2,c3⟩,cf,hp⟩:=h.field
 have f0:=cf 0
 have f1:=cf 1
 have f2:=cf 2
 have f3:=cf 3
 have H:=hid h
 have HX:=hid hX
 have HY:=hid hY
 have n1:=h.nN
 have n2:=h.na
 have n3:=h.nb
 have n4:=h.aN
 have n5:=h.bN
 clear h hX hY cf
 go_enter Tryz.func245,Tryz.ntmps245
 go_wp2_with fail
 have hpn:¬ w.heap.size = p:=oM
 have hpn2:¬ p = w.heap.size:=oM
 have i1:(0:Int) <= (n:Int):=oM
 have i2:(n:Int) <= (N:Int):=oM
 go_region
 go_wp2_with fail
 obtain ⟨W,hW⟩:∃ W,(((w.setCell ⟨p,2,none⟩ (.slice (some ⟨ga,0,none⟩) n N)).setCell ⟨p,3,none⟩ (.slice (some ⟨gb,0,none⟩) n N)).alloc (.cells #[.int .u32 (u0:Int),.int .u32 (u1:Int),.int .u32 (v0:Int),.int .u32 (v1:Int),.bool true] 254)).drew = W:=⟨_,rfl⟩
 rw [hW]
 have hE:Euc W B p N n gx gy ga gb n n fx fy fa fb:=by
  rw [<- hW]
  exact H.out.cut.below ((below_alloc _ _).drew)
 have hBW:Below B w W:=by
  rw [<- hW]
  have hB5:=H.out.B5
  exact ((((Below.refl B w).setCell hB5 _).setCell hB5 _).alloc (by have:=H.out.field.2.2; simp [World.setCell]; omega) _).drew
 have hs:w.heap.size < W.heap.size:=by rw [<- hW]; simp [World.setCell]
 have hbx:∀ j,j < 5 -> W.cell? ⟨w.heap.size,j,none⟩ = (#[Value.int .u32 (u0:Int),.int .u32 (u1:Int),.int .u32 (v0:Int),.int .u32 (v1:Int),.bool true]:Array Value)[j]?:=by
  intro j hj
  rw [<- hW]
  have:=World.cell?_alloc_new ((w.setCell ⟨p,2,none⟩ (.slice (some ⟨ga,0,none⟩) n N)).setCell ⟨p,3,none⟩ (.slice (some ⟨gb,0,none⟩) n N)) #[Value.int .u32 (u0:Int),.int .u32 (u1:Int),.int .u32 (v0:Int),.int .u32 (v1:Int),.bool true] 254 j
  simpa [World.setCell] using this
 have HE:=hid hE
 have HBW:=hid hBW
 have b0:=hbx 0 oM
 have b1:=hbx 1 oM
 have b2:=hbx 2 oM
 have b3:=hbx 3 oM
 have HBX:=hid hbx
 obtain ⟨⟨c0,c1,c2,c3⟩,_,_⟩:=hE.field
 simp at b0 b1 b2 b3
 clear hW hE hBW hbx f0 f1 f2 f3 hp hpn hpn2
 have hXY:=HE.out
 have hd1:∀ q,Calls Tryz.prog 247 #[.slice (some ⟨ga,0,none⟩) n N,.slice (some ⟨gx,0,none⟩) n N,.slice (some ⟨gy,0,none⟩) n N,.int .u32 (u0:Int),.int .u32 (v0:Int)] (W.drewN q) fun e w'=>e = .returned (.tuple #[]) /\ ∃ f',Row w' ga N f' /\ Wd f' n /\ vs f' n = vs fx n * u0 - vs fy n * v0 /\ (W.drewN q).grownBy w' (some ga):=fun q =>
  difference_any ga n N N N u0 v0 fa N (some ⟨gx,0,none⟩) (some ⟨gy,0,none⟩) fx fy (W.drewN q) (show Row W ga N fa from hXY.ra) n1 ((show Wn W _ _ _ from hXY.rx.wn0.mono n1)) hXY.wx ((show Wn W _ _ _ from hXY.ry.wn0.mono n1)) hXY.wy (fun a ha=>by cases ha; exact hXY.d2) (fun a ha=>by cases ha; exact hXY.d4) oM hu0 hv0 h1 (by rw [HX.out]; exact hlt)
 have hne:some p ≠ some ga:=by simpa using hXY.p3
 have hne2:some w.heap.size ≠ some ga:=by have:=hXY.ra.lt; have:=H.out.ra.lt; simp; omega
 have hkp:∀ W2,(W.drewN 1).grownBy W2 (some ga) -> W2.cell? ⟨p,0,none⟩ = some (.slice (some ⟨gx,0,none⟩) n N) /\ W2.cell? ⟨p,1,none⟩ = some (.slice (some ⟨gy,0,none⟩) n N) /\ W2.cell? ⟨p,2,none⟩ = some (.slice (some ⟨ga,0,none⟩) n N) /\ W2.cell? ⟨w.heap.size,0,none⟩ = some (.int .u32 (u0:Int)) /\ W2.cell? ⟨w.heap.size,2,none⟩ = some (.int .u32 (v0:Int)):=fun W2 hg =>
  ⟨hg.cell (show (W.drewN 1).cell? _ = _ from c0) hne,hg.cell (show (W.drewN 1).cell? _ = _ from c1) hne,hg.cell (show (W.drewN 1).cell? _ = _ from c2) hne,hg.cell (show (W.drewN 1).cell? _ = _ from b0) hne2,hg.cell (show (W.drewN 1).cell? _ = _ from b2) hne2⟩
 have HKP:=hid hkp
 clear hne hne2 hkp
 have HD1:=hid hd1
 have HLT:=hid hlt
 have H1:=hid h1
 have H2:=hid h2
 clear hd1 hXY hlt h1 h2
 go_region_held3 (fun w'=>w'.cell? ⟨p,0,none⟩ = some (.slice (some ⟨gx,0,none⟩) n N) /\ w'.cell? ⟨p,1,none⟩ = some (.slice (some ⟨gy,0,none⟩) n N) /\ w'.cell? ⟨p,2,none⟩ = some (.slice (some ⟨ga,0,none⟩) n N) /\ w'.cell? ⟨w.heap.size,0,none⟩ = some (.int .u32 (u0:Int)) /\ w'.cell? ⟨w.heap.size,2,none⟩ = some (.int .u32 (v0:Int))) (go_keep) ((go_at_call 247; refine (HD1.out 1).mono ?_; rintro e W2 ⟨rfl,f2,hr2,hw2,hv2,hg2⟩; obtain ⟨k0,k1,k2,k3,k4⟩:=HKP.out _ hg2))
 have hE2:=HE.out.wroteA (w:=W) ⟨hg2.os,hg2.tape,hg2.output,hg2.size,hg2.block⟩ hr2
 have hne2:some w.heap.size ≠ some ga:=by have:=H.out.ra.lt; simp; omega
 have hb1:W2.cell? ⟨w.heap.size,1,none⟩ = some (.int .u32 (u1:Int)):=hg2.cell (show (W.drewN 1).cell? _ = _ from b1) hne2
 have hb3:W2.cell? ⟨w.heap.size,3,none⟩ = some (.int .u32 (v1:Int)):=hg2.cell (show (W.drewN 1).cell? _ = _ from b3) hne2
 have hBW2:Below B w W2:=(HBW.out.drew).grown hg2 (Nat.le_of_lt (Nat.lt_of_le_of_lt H.out.B1 (lL H.out.rx.lt sO))) (fun k hk=>by cases hk; exact H.out.B3)
 have hs2:w.heap.size < W2.heap.size:=lL hs hg2.size
 rename_i hHeld
 rw [HX.out] at hv2
 have HV2:=hid hv2
 have HE2:=hid hE2
 have HBW2:=hid hBW2
 obtain ⟨⟨m0,m1,m2,m3⟩,_,_⟩:=hE2.field
 clear hHeld k0 k1 k2 k3 k4 c0 c1 c2 c3 b0 b1 b2 b3 HKP HD1 HBX hg2 hr2 hv2 hE2 hBW2 hne2 hs HE HBW H1
 have hXY:=HE2.out
 have hd1:∀ q,Calls Tryz.prog 247 #[.slice (some ⟨gb,0,none⟩) n N,.slice (some ⟨gy,0,none⟩) n N,.slice (some ⟨gx,0,none⟩) n N,.int .u32 (v1:Int),.int .u32 (u1:Int)] (W2.drewN q) fun e w'=>e = .returned (.tuple #[]) /\ ∃ f',Row w' gb N f' /\ Wd f' n /\ vs f' n = vs fy n * v1 - vs fx n * u1 /\ (W2.drewN q).grownBy w' (some gb):=fun q =>
  difference_any gb n N N N v1 u1 fb N (some ⟨gy,0,none⟩) (some ⟨gx,0,none⟩) fy fx (W2.drewN q) (show Row W2 gb N fb from hXY.rb) n1 ((show Wn W2 _ _ _ from hXY.ry.wn0.mono n1)) hXY.wy ((show Wn W2 _ _ _ from hXY.rx.wn0.mono n1)) hXY.wx (fun a ha=>by cases ha; exact hXY.d5) (fun a ha=>by cases ha; exact hXY.d3) oM hv1 hu1 H2.out (by rw [HY.out]; have:=HLT.out; omega)
 have hne:some p ≠ some gb:=by simpa using hXY.p4
 have hne2:some w.heap.size ≠ some gb:=by have:=H.out.rb.lt; simp; omega
 have hkp:∀ W3,(W2.drewN 1).grownBy W3 (some gb) -> W3.cell? ⟨p,0,none⟩ = some (.slice (some ⟨gx,0,none⟩) n N) /\ W3.cell? ⟨p,1,none⟩ = some (.slice (some ⟨gy,0,none⟩) n N) /\ W3.cell? ⟨p,3,none⟩ = some (.slice (some ⟨gb,0,none⟩) n N) /\ W3.cell? ⟨w.heap.size,3,none⟩ = some (.int .u32 (v1:Int)) /\ W3.cell? ⟨w.heap.size,1,none⟩ = some (.int .u32 (u1:Int)):=fun W3 hg =>
  ⟨hg.cell (show (W2.drewN 1).cell? _ = _ from m0) hne,hg.cell (show (W2.drewN 1).cell? _ = _ from m1) hne,hg.cell (show (W2.drewN 1).cell? _ = _ from m3) hne,hg.cell (show (W2.drewN 1).cell? _ = _ from hb3) hne2,hg.cell (show (W2.drewN 1).cell? _ = _ from hb1) hne2⟩
 have HKP:=hid hkp
 clear hne hne2 hkp
 have HD1:=hid hd1
 clear hd1 hXY
 go_wp2_with fail
 go_region_held3 (fun w'=>w'.cell? ⟨p,0,none⟩ = some (.slice (some ⟨gx,0,none⟩) n N) /\ w'.cell? ⟨p,1,none⟩ = some (.slice (some ⟨gy,0,none⟩) n N) /\ w'.cell? ⟨p,3,none⟩ = some (.slice (some ⟨gb,0,none⟩) n N) /\ w'.cell? ⟨w.heap.size,3,none⟩ = some (.int .u32 (v1:Int)) /\ w'.cell? ⟨w.heap.size,1,none⟩ = some (.int .u32 (u1:Int))) (go_keep) ((go_at_call 247; refine (HD1.out 1).mono ?_; rintro e W3 ⟨rfl,f3,hr3,hw3,hv3,hg3⟩; obtain ⟨k0,k1,k2,k3,k4⟩:=HKP.out _ hg3))
 rename_i hHeld
 have hE3:=HE2.out.wroteB (w:=W2) ⟨hg3.os,hg3.tape,hg3.output,hg3.size,hg3.block⟩ hr3
 have hBW3:Below B w W3:=(HBW2.out.drew).grown hg3 (Nat.le_of_lt (Nat.lt_of_le_of_lt H.out.B1 (lL H.out.rx.lt sO))) (fun k hk=>by cases hk; exact H.out.B4)
 rw [HY.out] at hv3
 have HV3:=hid hv3
 have HE3:=hid hE3
 have HBW3:=hid hBW3
 clear hHeld k0 k1 k2 k3 k4 m0 m1 m2 m3 hb1 hb3 HKP HD1 hg3 hr3 hv3 hE3 hBW3 hs2 HE2 HBW2 H2
 obtain ⟨⟨m0,m1,m2,m3⟩,mf,mp⟩:=HE3.out.field
 have q0:=mf 0
 have q1:=mf 1
 have q2:=mf 2
 have q3:=mf 3
 clear mf
 go_wp2_with fail
 go_region
 go_wp2_with fail
 obtain ⟨W4,hW4⟩:∃ W4,((((W3.setCell ⟨p,0,none⟩ (.slice (some ⟨ga,0,none⟩) n N)).setCell ⟨p,1,none⟩ (.slice (some ⟨gb,0,none⟩) n N)).setCell ⟨p,2,none⟩ (.slice (some ⟨gx,0,none⟩) n N)).setCell ⟨p,3,none⟩ (.slice (some ⟨gy,0,none⟩) n N)).drew = W4:=⟨_,rfl⟩
 rw [hW4]
 have hE4:Euc W4 B p N n ga gb gx gy n n f2 f3 fx fy:=by
  rw [<- hW4]
  exact (HE3.out.swap hw2 hw3).below (rfB.drew)
 have hBW4:Below B w W4:=by
  rw [<- hW4]
  have hB5:=H.out.B5
  exact ((((HBW3.out.setCell hB5 _).setCell hB5 _).setCell hB5 _).setCell hB5 _).drew
 have HE4:=hid hE4
 have HBW4:=hid hBW4
 clear hW4 hE4 hBW4 m0 m1 m2 m3 q0 q1 q2 q3 mp
 obtain ⟨⟨m0,m1,m2,m3⟩,mf,mp⟩:=HE4.out.field
 have q0:=mf 0
 have q1:=mf 1
 clear mf
 refine (trim_at _ _ _ f2 _ (HE4.out.rx.wn0.mono n1) hw2 n1 oM).mono ?_
 rintro e W5 ⟨rfl,_,rfl⟩
 have htl:tl f2 n = wl X:=by rw [tl_eq hw2,HV2.out]
 have hlX:wl X <= n:=by rw [<- htl]; exact tl_le _ _
 have hfX:vs f2 (wl X) = X:=by rw [<- htl,vs_tl,HV2.out]
 have hfY:vs f3 (wl X) = Y:=by
  have hz:=high_zero (f:=f3) (m:=wl X) (n:=n) hlX (by rw [HV3.out]; exact Nat.lt_of_le_of_lt hle (lt_wl X))
  rw [<- vs_drop hlX hz,HV3.out]
 rw [htl]
 have HFX:=hid hfX
 have HFY:=hid hfY
 clear htl hfX hfY
 have i3:(0:Int) <= (wl X:Int):=oM
 have i4:((wl X:Nat):Int) <= (N:Int):=oM
 go_wp2
 go_region
 go_wp2
 go_end0
 refine ⟨rfl,f2,f3,?_,HFX.out,HFY.out,?_⟩
 ·exact (HE4.out.short hlX).below (rfB.drew)
 ·have hB5:=H.out.B5
  exact ((HBW4.out.setCell hB5 _).setCell hB5 _).drew
theorem leap_any2 (w:World) (B p N n gx gy ga gb ka kb u0 v0 u1 v1 X Y:Nat) (fx fy fa fb:Nat -> Nat) (h:Euc w B p N n gx gy ga gb ka kb fx fy fa fb) (hN:N <= 549755813888)
  (hu0:u0 < 4294967296) (hv0:v0 < 4294967296) (hu1:u1 < 4294967296) (hv1:v1 < 4294967296)
  (h1:vs fx n * u0 <= vs fy n * v0) (h2:vs fy n * v1 <= vs fx n * u1) (hX:vs fy n * v0 - vs fx n * u0 = X) (hY:vs fx n * u1 - vs fy n * v1 = Y) (hle:Y <= X) (hlt:X < 4294967296 ^ n) :
  Calls Tryz.prog 245 #[.pointer (some ⟨p,0,none⟩),.agg #[.int .u32 (u0:Int),.int .u32 (u1:Int),.int .u32 (v0:Int),.int .u32 (v1:Int),.bool false]] w fun e w'=>e = .returned (.tuple #[]) /\
   ∃ fx' fy',Euc w' B p N (wl X) ga gb gx gy n n fx' fy' fx fy /\ vs fx' (wl X) = X /\ vs fy' (wl X) = Y /\ Below B w w':=by
 obtain ⟨⟨c0,c1,c2,c3⟩,cf,hp⟩:=h.field
 have f0:=cf 0
 have f1:=cf 1
 have f2:=cf 2
 have f3:=cf 3
 have H:=hid h
 have HX:=hid hX
 have HY:=hid hY
 have n1:=h.nN
 have n2:=h.na
 have n3:=h.nb
 have n4:=h.aN
 have n5:=h.bN
 clear h hX hY cf
 go_enter Tryz.func245,Tryz.ntmps245
 go_wp2_with fail
 have hpn:¬ w.heap.size = p:=oM
 have hpn2:¬ p = w.heap.size:=oM
 have i1:(0:Int) <= (n:Int):=oM
 have i2:(n:Int) <= (N:Int):=oM
 go_region
 go_wp2_with fail
 obtain ⟨W,hW⟩:∃ W,(((w.setCell ⟨p,2,none⟩ (.slice (some ⟨ga,0,none⟩) n N)).setCell ⟨p,3,none⟩ (.slice (some ⟨gb,0,none⟩) n N)).alloc (.cells #[.int .u32 (u0:Int),.int .u32 (u1:Int),.int .u32 (v0:Int),.int .u32 (v1:Int),.bool false] 254)).drew = W:=⟨_,rfl⟩
 rw [hW]
 have hE:Euc W B p N n gx gy ga gb n n fx fy fa fb:=by
  rw [<- hW]
  exact H.out.cut.below ((below_alloc _ _).drew)
 have hBW:Below B w W:=by
  rw [<- hW]
  have hB5:=H.out.B5
  exact ((((Below.refl B w).setCell hB5 _).setCell hB5 _).alloc (by have:=H.out.field.2.2; simp [World.setCell]; omega) _).drew
 have hs:w.heap.size < W.heap.size:=by rw [<- hW]; simp [World.setCell]
 have hbx:∀ j,j < 5 -> W.cell? ⟨w.heap.size,j,none⟩ = (#[Value.int .u32 (u0:Int),.int .u32 (u1:Int),.int .u32 (v0:Int),.int .u32 (v1:Int),.bool false]:Array Value)[j]?:=by
  intro j hj
  rw [<- hW]
  have:=World.cell?_alloc_new ((w.setCell ⟨p,2,none⟩ (.slice (some ⟨ga,0,none⟩) n N)).setCell ⟨p,3,none⟩ (.slice (some ⟨gb,0,none⟩) n N)) #[Value.int .u32 (u0:Int),.int .u32 (u1:Int),.int .u32 (v0:Int),.int .u32 (v1:Int),.bool false] 254 j
  simpa [World.setCell] using this
 have HE:=hid hE
 have HBW:=hid hBW
 have b0:=hbx 0 oM
 have b1:=hbx 1 oM
 have b2:=hbx 2 oM
 have b3:=hbx 3 oM
 have HBX:=hid hbx
 obtain ⟨⟨c0,c1,c2,c3⟩,_,_⟩:=hE.field
 simp at b0 b1 b2 b3
 clear hW hE hBW hbx f0 f1 f2 f3 hp hpn hpn2
 have hXY:=HE.out
 have hd1:∀ q,Calls Tryz.prog 247 #[.slice (some ⟨ga,0,none⟩) n N,.slice (some ⟨gy,0,none⟩) n N,.slice (some ⟨gx,0,none⟩) n N,.int .u32 (v0:Int),.int .u32 (u0:Int)] (W.drewN q) fun e w'=>e = .returned (.tuple #[]) /\ ∃ f',Row w' ga N f' /\ Wd f' n /\ vs f' n = vs fy n * v0 - vs fx n * u0 /\ (W.drewN q).grownBy w' (some ga):=fun q =>
  difference_any ga n N N N v0 u0 fa N (some ⟨gy,0,none⟩) (some ⟨gx,0,none⟩) fy fx (W.drewN q) (show Row W ga N fa from hXY.ra) n1 ((show Wn W _ _ _ from hXY.ry.wn0.mono n1)) hXY.wy ((show Wn W _ _ _ from hXY.rx.wn0.mono n1)) hXY.wx (fun a ha=>by cases ha; exact hXY.d4) (fun a ha=>by cases ha; exact hXY.d2) oM hv0 hu0 h1 (by rw [HX.out]; exact hlt)
 have hne:some p ≠ some ga:=by simpa using hXY.p3
 have hne2:some w.heap.size ≠ some ga:=by have:=hXY.ra.lt; have:=H.out.ra.lt; simp; omega
 have hkp:∀ W2,(W.drewN 1).grownBy W2 (some ga) -> W2.cell? ⟨p,0,none⟩ = some (.slice (some ⟨gx,0,none⟩) n N) /\ W2.cell? ⟨p,1,none⟩ = some (.slice (some ⟨gy,0,none⟩) n N) /\ W2.cell? ⟨p,2,none⟩ = some (.slice (some ⟨ga,0,none⟩) n N) /\ W2.cell? ⟨w.heap.size,0,none⟩ = some (.int .u32 (u0:Int)) /\ W2.cell? ⟨w.heap.size,2,none⟩ = some (.int .u32 (v0:Int)):=fun W2 hg =>
  ⟨hg.cell (show (W.drewN 1).cell? _ = _ from c0) hne,hg.cell (show (W.drewN 1).cell? _ = _ from c1) hne,hg.cell (show (W.drewN 1).cell? _ = _ from c2) hne,hg.cell (show (W.drewN 1).cell? _ = _ from b0) hne2,hg.cell (show (W.drewN 1).cell? _ = _ from b2) hne2⟩
 have HKP:=hid hkp
 clear hne hne2 hkp
 have HD1:=hid hd1
 have HLT:=hid hlt
 have H1:=hid h1
 have H2:=hid h2
 clear hd1 hXY hlt h1 h2
 go_region_held3 (fun w'=>w'.cell? ⟨p,0,none⟩ = some (.slice (some ⟨gx,0,none⟩) n N) /\ w'.cell? ⟨p,1,none⟩ = some (.slice (some ⟨gy,0,none⟩) n N) /\ w'.cell? ⟨p,2,none⟩ = some (.slice (some ⟨ga,0,none⟩) n N) /\ w'.cell? ⟨w.heap.size,0,none⟩ = some (.int .u32 (u0:Int)) /\ w'.cell? ⟨w.heap.size,2,none⟩ = some (.int .u32 (v0:Int))) (go_keep) ((go_at_call 247; refine (HD1.out 1).mono ?_; rintro e W2 ⟨rfl,f2,hr2,hw2,hv2,hg2⟩; obtain ⟨k0,k1,k2,k3,k4⟩:=HKP.out _ hg2))
 have hE2:=HE.out.wroteA (w:=W) ⟨hg2.os,hg2.tape,hg2.output,hg2.size,hg2.block⟩ hr2
 have hne2:some w.heap.size ≠ some ga:=by have:=H.out.ra.lt; simp; omega
 have hb1:W2.cell? ⟨w.heap.size,1,none⟩ = some (.int .u32 (u1:Int)):=hg2.cell (show (W.drewN 1).cell? _ = _ from b1) hne2
 have hb3:W2.cell? ⟨w.heap.size,3,none⟩ = some (.int .u32 (v1:Int)):=hg2.cell (show (W.drewN 1).cell? _ = _ from b3) hne2
 have hBW2:Below B w W2:=(HBW.out.drew).grown hg2 (Nat.le_of_lt (Nat.lt_of_le_of_lt H.out.B1 (lL H.out.rx.lt sO))) (fun k hk=>by cases hk; exact H.out.B3)
 have hs2:w.heap.size < W2.heap.size:=lL hs hg2.size
 rename_i hHeld
 rw [HX.out] at hv2
 have HV2:=hid hv2
 have HE2:=hid hE2
 have HBW2:=hid hBW2
 obtain ⟨⟨m0,m1,m2,m3⟩,_,_⟩:=hE2.field
 clear hHeld k0 k1 k2 k3 k4 c0 c1 c2 c3 b0 b1 b2 b3 HKP HD1 HBX hg2 hr2 hv2 hE2 hBW2 hne2 hs HE HBW H1
 have hXY:=HE2.out
 have hd1:∀ q,Calls Tryz.prog 247 #[.slice (some ⟨gb,0,none⟩) n N,.slice (some ⟨gx,0,none⟩) n N,.slice (some ⟨gy,0,none⟩) n N,.int .u32 (u1:Int),.int .u32 (v1:Int)] (W2.drewN q) fun e w'=>e = .returned (.tuple #[]) /\ ∃ f',Row w' gb N f' /\ Wd f' n /\ vs f' n = vs fx n * u1 - vs fy n * v1 /\ (W2.drewN q).grownBy w' (some gb):=fun q =>
  difference_any gb n N N N u1 v1 fb N (some ⟨gx,0,none⟩) (some ⟨gy,0,none⟩) fx fy (W2.drewN q) (show Row W2 gb N fb from hXY.rb) n1 ((show Wn W2 _ _ _ from hXY.rx.wn0.mono n1)) hXY.wx ((show Wn W2 _ _ _ from hXY.ry.wn0.mono n1)) hXY.wy (fun a ha=>by cases ha; exact hXY.d3) (fun a ha=>by cases ha; exact hXY.d5) oM hu1 hv1 H2.out (by rw [HY.out]; have:=HLT.out; omega)
 have hne:some p ≠ some gb:=by simpa using hXY.p4
 have hne2:some w.heap.size ≠ some gb:=by have:=H.out.rb.lt; simp; omega
 have hkp:∀ W3,(W2.drewN 1).grownBy W3 (some gb) -> W3.cell? ⟨p,0,none⟩ = some (.slice (some ⟨gx,0,none⟩) n N) /\ W3.cell? ⟨p,1,none⟩ = some (.slice (some ⟨gy,0,none⟩) n N) /\ W3.cell? ⟨p,3,none⟩ = some (.slice (some ⟨gb,0,none⟩) n N) /\ W3.cell? ⟨w.heap.size,3,none⟩ = some (.int .u32 (v1:Int)) /\ W3.cell? ⟨w.heap.size,1,none⟩ = some (.int .u32 (u1:Int)):=fun W3 hg =>
  ⟨hg.cell (show (W2.drewN 1).cell? _ = _ from m0) hne,hg.cell (show (W2.drewN 1).cell? _ = _ from m1) hne,hg.cell (show (W2.drewN 1).cell? _ = _ from m3) hne,hg.cell (show (W2.drewN 1).cell? _ = _ from hb3) hne2,hg.cell (show (W2.drewN 1).cell? _ = _ from hb1) hne2⟩
 have HKP:=hid hkp
 clear hne hne2 hkp
 have HD1:=hid hd1
 clear hd1 hXY
 go_wp2_with fail
 go_region_held3 (fun w'=>w'.cell? ⟨p,0,none⟩ = some (.slice (some ⟨gx,0,none⟩) n N) /\ w'.cell? ⟨p,1,none⟩ = some (.slice (some ⟨gy,0,none⟩) n N) /\ w'.cell? ⟨p,3,none⟩ = some (.slice (some ⟨gb,0,none⟩) n N) /\ w'.cell? ⟨w.heap.size,3,none⟩ = some (.int .u32 (v1:Int)) /\ w'.cell? ⟨w.heap.size,1,none⟩ = some (.int .u32 (u1:Int))) (go_keep) ((go_at_call 247; refine (HD1.out 1).mono ?_; rintro e W3 ⟨rfl,f3,hr3,hw3,hv3,hg3⟩; obtain ⟨k0,k1,k2,k3,k4⟩:=HKP.out _ hg3))
 rename_i hHeld
 have hE3:=HE2.out.wroteB (w:=W2) ⟨hg3.os,hg3.tape,hg3.output,hg3.size,hg3.block⟩ hr3
 have hBW3:Below B w W3:=(HBW2.out.drew).grown hg3 (Nat.le_of_lt (Nat.lt_of_le_of_lt H.out.B1 (lL H.out.rx.lt sO))) (fun k hk=>by cases hk; exact H.out.B4)
 rw [HY.out] at hv3
 have HV3:=hid hv3
 have HE3:=hid hE3
 have HBW3:=hid hBW3
 clear hHeld k0 k1 k2 k3 k4 m0 m1 m2 m3 hb1 hb3 HKP HD1 hg3 hr3 hv3 hE3 hBW3 hs2 HE2 HBW2 H2
 obtain ⟨⟨m0,m1,m2,m3⟩,mf,mp⟩:=HE3.out.field
 have q0:=mf 0
 have q1:=mf 1
 have q2:=mf 2
 have q3:=mf 3
 clear mf
 go_wp2_with fail
 go_region
 go_wp2_with fail
 obtain ⟨W4,hW4⟩:∃ W4,((((W3.setCell ⟨p,0,none⟩ (.slice (some ⟨ga,0,none⟩) n N)).setCell ⟨p,1,none⟩ (.slice (some ⟨gb,0,none⟩) n N)).setCell ⟨p,2,none⟩ (.slice (some ⟨gx,0,none⟩) n N)).setCell ⟨p,3,none⟩ (.slice (some ⟨gy,0,none⟩) n N)).drew = W4:=⟨_,rfl⟩
 rw [hW4]
 have hE4:Euc W4 B p N n ga gb gx gy n n f2 f3 fx fy:=by
  rw [<- hW4]
  exact (HE3.out.swap hw2 hw3).below (rfB.drew)
 have hBW4:Below B w W4:=by
  rw [<- hW4]
  have hB5:=H.out.B5
  exact ((((HBW3.out.setCell hB5 _).setCell hB5 _).setCell hB5 _).setCell hB5 _).drew
 have HE4:=hid hE4
 have HBW4:=hid hBW4
 clear hW4 hE4 hBW4 m0 m1 m2 m3 q0 q1 q2 q3 mp
 obtain ⟨⟨m0,m1,m2,m3⟩,mf,mp⟩:=HE4.out.field
 have q0:=mf 0
 have q1:=mf 1
 clear mf
 refine (trim_at _ _ _ f2 _ (HE4.out.rx.wn0.mono n1) hw2 n1 oM).mono ?_
 rintro e W5 ⟨rfl,_,rfl⟩
 have htl:tl f2 n = wl X:=by rw [tl_eq hw2,HV2.out]
 have hlX:wl X <= n:=by rw [<- htl]; exact tl_le _ _
 have hfX:vs f2 (wl X) = X:=by rw [<- htl,vs_tl,HV2.out]
 have hfY:vs f3 (wl X) = Y:=by
  have hz:=high_zero (f:=f3) (m:=wl X) (n:=n) hlX (by rw [HV3.out]; exact Nat.lt_of_le_of_lt hle (lt_wl X))
  rw [<- vs_drop hlX hz,HV3.out]
 rw [htl]
 have HFX:=hid hfX
 have HFY:=hid hfY
 clear htl hfX hfY
 have i3:(0:Int) <= (wl X:Int):=oM
 have i4:((wl X:Nat):Int) <= (N:Int):=oM
 go_wp2
 go_region
 go_wp2
 go_end0
 refine ⟨rfl,f2,f3,?_,HFX.out,HFY.out,?_⟩
 ·exact (HE4.out.short hlX).below (rfB.drew)
 ·have hB5:=H.out.B5
  exact ((HBW4.out.setCell hB5 _).setCell hB5 _).drew
end Go.Proofs.YtjodlmanheeajaaGreatDoor
