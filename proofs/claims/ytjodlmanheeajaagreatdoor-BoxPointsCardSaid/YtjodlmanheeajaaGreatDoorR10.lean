import Derived.Deep.LoopGhost
import Derived.Lib.SliceRun
import Derived.Test.YtjodlmanheeajaaGreatDoorR09
import Derived.Test.YtjodlmanheeajaaGreatDoorR02
set_option linter.unusedVariables false
set_option linter.unusedSimpArgs false
set_option maxRecDepth 100000
set_option maxHeartbeats 8000000
namespace Go.Proofs.YtjodlmanheeajaaGreatDoor
open Go.RowKit
def zer (f:Nat -> Nat) (off n:Nat):Nat -> Nat:=fun j=>if off <= j /\ j < off + n then 0 else f j
theorem zero_u32 (w:World):(zeroValue 140).run Tryz.prog w = .ok (.int .u32 0) w:=kR
theorem setCells_row:∀ (n:Nat) (w:World) (g off m:Nat) (f:Nat -> Nat),Row w g m f -> off + n <= m -> Row (w.setCells g off (List.replicate n (.int .u32 0))) g m (zer f off n) /\ w.grownBy (w.setCells g off (List.replicate n (.int .u32 0))) (some g)
 | 0,w,g,off,m,f,h,_=>⟨h.congr fun j _=>by unfold zer; rw [if_neg oM],grown_refl _ _⟩
 | n + 1,w,g,off,m,f,h,hn=>by
  obtain ⟨h1,h2⟩:=setCells_row n _ g (off + 1) m _ (h.set_ (show off < m by omega) 0) oM
  refine ⟨h1.congr fun j _=>?_,grown_trans (grown_set _ _ _ _) h2⟩
  unfold zer upd
  by_cases hj:j = off
  ·subst hj
   rw [if_neg oM,if_pos rfl,if_pos oM]
  ·by_cases hj2:off + 1 <= j /\ j < off + 1 + n
   ·rw [if_pos hj2,if_pos oM]
   ·rw [if_neg hj2,if_neg hj,if_neg oM]
theorem clear_run (w:World) (g off n c m:Nat) (f:Nat -> Nat) (hr:Row w g m f) (hn:off + n <= m) :
  ∃ w',(∀ ty,(Builtin.clear_ #[45] ty #[.slice (some ⟨g,off,none⟩) n c]).run Tryz.prog w = .ok (.tuple #[]) w') /\ Row w' g m (zer f off n) /\ w.grownBy w' (some g):=by
 rcases Nat.eq_zero_or_pos n with h0 | h0
 ·subst h0
  exact ⟨w,fun ty=>by simp [Builtin.clear_,run_underlying Tryz.underlying45],hr.congr fun j _=>by unfold zer; rw [if_neg oM],grown_refl _ _⟩
 ·obtain ⟨h1,h2⟩:=setCells_row n w g off m f hr hn
  exact ⟨_,fun ty=>Lib.run_clear_slice w 45 140 ty (.int .u32 0) Tryz.underlying45 zero_u32 rfl rfl g off n c h0 (fun j hj=>by rw [hr.cell oM]; rfl) (fun j hj=>hr.frozen _),h1,h2⟩
theorem Euc.exch {w:World} {B p N n m gx gy ga gb ka kb:Nat} {fx fy fa fb:Nat -> Nat} (h:Euc w B p N n gx gy ga gb ka kb fx fy fa fb) (hm:m <= n) :
  Euc ((w.setCell ⟨p,0,none⟩ (.slice (some ⟨gy,0,none⟩) m N)).setCell ⟨p,1,none⟩ (.slice (some ⟨gx,0,none⟩) m N)) B p N m gy gx ga gb ka kb fy fx fa fb:=by
 obtain ⟨T,hT⟩:=h.cell
 have h1:=h.nN
 have h2:=h.na
 have h3:=h.nb
 exact {
  cell:=⟨T,heap_set_cells (heap_set_cells hT _ _) _ _⟩
  rx:=(h.ry.keep_set h.p2 _ _).keep_set h.p2 _ _
  ry:=(h.rx.keep_set h.p1 _ _).keep_set h.p1 _ _
  ra:=(h.ra.keep_set h.p3 _ _).keep_set h.p3 _ _
  rb:=(h.rb.keep_set h.p4 _ _).keep_set h.p4 _ _
  wx:=h.wy.mono hm,wy:=h.wx.mono hm,nN:=by omega,na:=by omega,nb:=by omega,aN:=h.aN,bN:=h.bN
  d1:=fun e=>h.d1 e.symm,d2:=h.d4,d3:=h.d5,d4:=h.d2,d5:=h.d3,d6:=h.d6
  p1:=h.p2,p2:=h.p1,p3:=h.p3,p4:=h.p4,B1:=h.B2,B2:=h.B1,B3:=h.B3,B4:=h.B4,B5:=h.B5 }
theorem divide_any (w:World) (B p N n gx gy ga gb ka kb X Y:Nat) (fx fy fa fb:Nat -> Nat) (h:Euc w B p N n gx gy ga gb ka kb fx fy fa fb) (hN:N < 549755813888)
  (hX:vs fx n = X) (hY:vs fy n = Y) (hnX:wl X = n) (hle:Y <= X) (hY0:0 < Y) :
  Calls Tryz.prog 244 #[.pointer (some ⟨p,0,none⟩),.slice (some ⟨gy,0,none⟩) (wl Y) N] w fun e w'=>e = .returned (.tuple #[]) /\
   ∃ fx' fy',Euc w' B p N (wl Y) gy gx ga gb ka kb fx' fy' fa fb /\ vs fx' (wl Y) = Y /\ vs fy' (wl Y) = X % Y /\ Below B w w':=by
 have hlY:wl Y <= n:=by rw [<- hnX]; exact wl_mono hle
 have hfY:vs fy (wl Y) = Y:=by
  have hz:=high_zero (f:=fy) (m:=wl Y) (n:=n) hlY (by rw [hY]; exact lt_wl Y)
  rw [<- vs_drop hlY hz,hY]
 have n1:=h.nN
 have hIX:IsNat w (.slice (some ⟨gx,0,none⟩) n N) X:=by
  have h1:=IsNat.mk_tl (c:=N) (h.rx.wn0.mono n1) h.wx n1
  rw [tl_eq h.wx,hX,hnX] at h1
  exact h1
 have hIY:IsNat w (.slice (some ⟨gy,0,none⟩) (wl Y) N) Y:=by
  have h1:=IsNat.mk_tl (c:=N) (h.ry.wn0.mono (show wl Y <= N by omega)) (h.wy.mono hlY) (show wl Y <= N by omega)
  rw [tl_eq (h.wy.mono hlY),hfY] at h1
  exact h1
 obtain ⟨⟨c0,c1,c2,c3⟩,cf,hp⟩:=h.field
 have f0:=cf 0
 have f1:=cf 1
 have hdv:=div_any _ _ X Y w hIX hIY hY0 oM oM
 have HD:=hid hdv
 have H:=hid h
 have HFY:=hid hfY
 have HnX:=hid hnX
 have hwm:wl (X % Y) <= wl Y:=wl_mono (Nat.le_of_lt (Nat.mod_lt _ hY0))
 clear h hX hY hfY hIX hIY hdv cf hnX
 go_enter Tryz.func244,Tryz.ntmps244
 go_wp2_with fail
 refine HD.out.mono ?_
 rintro e W ⟨vq,vr,rfl,_,hvr,hb⟩
 obtain ⟨Ar,cr,rfl,hcr,hwr⟩:=hvr
 have hE:=H.out.below hb
 obtain ⟨W2,hcp,hr2,hg2⟩:=copy_run W gx 0 n N (wl (X % Y)) cr N (wl (X % Y)) Ar fx (dg (X % Y)) hE.rx hwr oM oM
 have hW3:∃ A W3,((N = wl (X % Y)) = True /\ A = (⟨gx,0,none⟩:Addr) ∨ (N = wl (X % Y)) = False /\ A = ⟨gx,wl (X % Y),none⟩) /\ (∀ ty,(Builtin.clear_ #[45] ty #[.slice (some A) (n - wl (X % Y)) (N - wl (X % Y))]).run Tryz.prog W2 = .ok (.tuple #[]) W3) /\
   Row W3 gx N (zer (cpy fx 0 (dg (X % Y)) (wl (X % Y))) (wl (X % Y)) (n - wl (X % Y))) /\ W2.grownBy W3 (some gx):=by
  by_cases hc:N = wl (X % Y)
  ·have hz:n - wl (X % Y) = 0:=oM
   refine ⟨⟨gx,0,none⟩,W2,.inl ⟨eq_true hc,rfl⟩,fun ty=>?_,hr2.congr fun j _=>?_,grown_refl _ _⟩
   ·rw [hz]; simp [Builtin.clear_,run_underlying Tryz.underlying45]
   ·unfold zer; rw [if_neg oM]
  ·obtain ⟨W3,hcl,hr3,hg3⟩:=clear_run W2 gx (wl (X % Y)) (n - wl (X % Y)) (N - wl (X % Y)) N _ hr2 oM
   exact ⟨⟨gx,wl (X % Y),none⟩,W3,.inr ⟨eq_false hc,rfl⟩,hcl,hr3,hg3⟩
 obtain ⟨A3,W3,hdec,hcl,hr3,hg3⟩:=hW3
 have hg13:=grown_trans hg2 hg3
 have e0:W.cell? ⟨p,0,none⟩ = some (.slice (some ⟨gx,0,none⟩) n N):=hE.field.1.1
 have hpx:some p ≠ some gx:=by simpa using hE.p1
 have e1:W2.cell? ⟨p,0,none⟩ = some (.slice (some ⟨gx,0,none⟩) n N):=hg2.cell e0 hpx
 have hE3:Euc W3 B p N n gx gy ga gb ka kb (zer (cpy fx 0 (dg (X % Y)) (wl (X % Y))) (wl (X % Y)) (n - wl (X % Y))) fy fa fb:=by
  obtain ⟨T,hT⟩:=hE.cell
  have hp':=hE.field.2.2
  exact { hE with
   cell:=⟨T,(hg13.block p hp' (by simpa using hE.p1)).trans hT⟩,rx:=hr3,ry:=hE.ry.grown hg13 (by simpa using (fun e=>hE.d1 e.symm)),ra:=hE.ra.grown hg13 (by simpa using (fun e=>hE.d2 e.symm)),rb:=hE.rb.grown hg13 (by simpa using (fun e=>hE.d3 e.symm))
   wx:=fun j hj=>by
    unfold zer cpy
    split
    ·omega
    ·split
     ·exact dg_lt _ _
     ·exact hE.wx j hj }
 have hlv:vs (zer (cpy fx 0 (dg (X % Y)) (wl (X % Y))) (wl (X % Y)) (n - wl (X % Y))) (wl Y) = X % Y:=by
  rw [vs_drop hwm (fun j h1 h2=>by unfold zer; rw [if_pos oM]),vs_congr (g:=dg (X % Y)) (fun j hj=>by unfold zer cpy; rw [if_neg oM,if_pos oM,Nat.sub_zero]),vs_dg_wl]
 have hB3:Below B w W3:=((hb.mono (Nat.le_of_lt (Nat.lt_of_le_of_lt H.out.B1 H.out.rx.lt)))).grown hg13 (Nat.le_of_lt (Nat.lt_of_le_of_lt hE.B1 hE.rx.lt)) (fun k hk=>by cases hk; exact hE.B1)
 generalize zer (cpy fx 0 (dg (X % Y)) (wl (X % Y))) (wl (X % Y)) (n - wl (X % Y)) = fz at *
 have HE3:=hid hE3
 have HLV:=hid hlv
 have HB3:=hid hB3
 obtain ⟨⟨m0,m1,m2,m3⟩,mf,mp⟩:=hE3.field
 have q0:=mf 0
 have q1:=mf 1
 have i1:(0:Int) <= ((wl Y:Nat):Int):=oM
 have i2:((wl Y:Nat):Int) <= (N:Int):=oM
 clear hE hr2 hg2 hr3 hg3 hg13 hE3 hlv hB3 mf hpx f0 f1 hp c0 c1 c2 c3 hwr
 rcases hdec with ⟨hd,rfl⟩ | ⟨hd,rfl⟩
 all_goals
  go_wp2_with fail
  go_region
  go_wp2
  go_end0
  refine ⟨rfl,fy,fz,(HE3.out.exch hlY).below (rfB.drew),HFY.out,HLV.out,?_⟩
  have hB5:=H.out.B5
  exact ((HB3.out.setCell hB5 _).setCell hB5 _).drew
theorem euc_new (w:World) (N a b c d:Nat) (T:TypeId) (W:World) (hW:(((((w.alloc (zrow N)).alloc (zrow N)).alloc (zrow N)).alloc (zrow N)).alloc (.cells #[.slice (some ⟨a,0,none⟩) N N,.slice (some ⟨b,0,none⟩) N N,.slice (some ⟨c,0,none⟩) N N,.slice (some ⟨d,0,none⟩) N N] T)).drew = W)
  (ha:w.heap.size <= a /\ a < w.heap.size + 4) (hb:w.heap.size <= b /\ b < w.heap.size + 4) (hc:w.heap.size <= c /\ c < w.heap.size + 4) (hd:w.heap.size <= d /\ d < w.heap.size + 4)
  (d1:a ≠ b) (d2:a ≠ c) (d3:a ≠ d) (d4:b ≠ c) (d5:b ≠ d) (d6:c ≠ d) :
  Euc W w.heap.size (w.heap.size + 1 + 1 + 1 + 1) N N a b c d N N (fun _=>0) (fun _=>0) (fun _=>0) (fun _=>0) /\ Below w.heap.size w W:=by
 have s1:(w.alloc (zrow N)).heap.size = w.heap.size + 1:=sP
 have s2:((w.alloc (zrow N)).alloc (zrow N)).heap.size = w.heap.size + 2:=sP
 have s3:(((w.alloc (zrow N)).alloc (zrow N)).alloc (zrow N)).heap.size = w.heap.size + 3:=sP
 have s4:((((w.alloc (zrow N)).alloc (zrow N)).alloc (zrow N)).alloc (zrow N)).heap.size = w.heap.size + 4:=sP
 have row:∀ k,w.heap.size <= k /\ k < w.heap.size + 4 -> Row W k N (fun _=>0):=by
  intro k hk
  have r0:=Row.zrow w N
  have r1:=Row.zrow (w.alloc (zrow N)) N
  have r2:=Row.zrow ((w.alloc (zrow N)).alloc (zrow N)) N
  have r3:=Row.zrow (((w.alloc (zrow N)).alloc (zrow N)).alloc (zrow N)) N
  rw [s1] at r1
  rw [s2] at r2
  rw [s3] at r3
  rw [<- hW]
  rcases (show k = w.heap.size ∨ k = w.heap.size + 1 ∨ k = w.heap.size + 2 ∨ k = w.heap.size + 3 by omega) with rfl | rfl | rfl | rfl
  ·exact (((r0.below (below_alloc _ _) sP).below (below_alloc _ _) (by first | (simp; done) | (simp; omega))).below (below_alloc _ _) (by first | (simp; done) | (simp; omega))).below ((below_alloc _ _).drew) (by first | (simp; done) | (simp; omega))
  ·exact ((r1.below (below_alloc _ _) sP).below (below_alloc _ _) (by first | (simp; done) | (simp; omega))).below ((below_alloc _ _).drew) (by first | (simp; done) | (simp; omega))
  ·exact (r2.below (below_alloc _ _) sP).below ((below_alloc _ _).drew) (by first | (simp; done) | (simp; omega))
  ·exact r3.below ((below_alloc _ _).drew) sP
 refine ⟨{ cell:=⟨T,?_⟩,rx:=row a ha,ry:=row b hb,ra:=row c hc,rb:=row d hd,wx:=Wd_zero _,wy:=Wd_zero _,nN:=Nat.le_refl _,na:=Nat.le_refl _,nb:=Nat.le_refl _,aN:=Nat.le_refl _,bN:=Nat.le_refl _,d1:=d1,d2:=d2,d3:=d3,d4:=d4,d5:=d5,d6:=d6,p1:=by omega,p2:=by omega,p3:=by omega,p4:=by omega,B1:=ha.1,B2:=hb.1,B3:=hc.1,B4:=hd.1,B5:=by omega },?_⟩
 ·rw [<- hW]
  have:=heap_alloc_new ((((w.alloc (zrow N)).alloc (zrow N)).alloc (zrow N)).alloc (zrow N)) (.cells #[.slice (some ⟨a,0,none⟩) N N,.slice (some ⟨b,0,none⟩) N N,.slice (some ⟨c,0,none⟩) N N,.slice (some ⟨d,0,none⟩) N N] T)
  rw [s4] at this
  exact this
 ·rw [<- hW]
  exact (bT (below_alloc _ _) (bT (below_alloc _ _) (bT (below_alloc _ _) (bT (below_alloc _ _) (below_alloc _ _))))).drew
theorem Euc.putX {w w':World} {B p N n gx gy ga gb ka kb:Nat} {fx fy fa fb f':Nat -> Nat} (h:Euc w B p N n gx gy ga gb ka kb fx fy fa fb) (hg:w.grownBy w' (some gx)) (hr:Row w' gx N f') (hf:Wd f' n) :
  Euc w' B p N n gx gy ga gb ka kb f' fy fa fb:=by
 have hp:=h.field.2.2
 obtain ⟨T,hT⟩:=h.cell
 exact { h with cell:=⟨T,(hg.block p hp (by simpa using h.p1)).trans hT⟩,rx:=hr,ry:=h.ry.grown hg (by simpa using (fun e=>h.d1 e.symm)),ra:=h.ra.grown hg (by simpa using (fun e=>h.d2 e.symm)),rb:=h.rb.grown hg (by simpa using (fun e=>h.d3 e.symm)),wx:=hf }
theorem Euc.putY {w w':World} {B p N n gx gy ga gb ka kb:Nat} {fx fy fa fb f':Nat -> Nat} (h:Euc w B p N n gx gy ga gb ka kb fx fy fa fb) (hg:w.grownBy w' (some gy)) (hr:Row w' gy N f') (hf:Wd f' n) :
  Euc w' B p N n gx gy ga gb ka kb fx f' fa fb:=by
 have hp:=h.field.2.2
 obtain ⟨T,hT⟩:=h.cell
 exact { h with cell:=⟨T,(hg.block p hp (by simpa using h.p2)).trans hT⟩,rx:=h.rx.grown hg (by simpa using h.d1),ry:=hr,ra:=h.ra.grown hg (by simpa using (fun e=>h.d4 e.symm)),rb:=h.rb.grown hg (by simpa using (fun e=>h.d5 e.symm)),wy:=hf }
theorem euc_fill (w:World) (N p a b c d nx ny cx cy:Nat) (A A':Option Addr) (fx fy:Nat -> Nat) (W:World) (h:Euc W w.heap.size p N N a b c d N N (fun _=>0) (fun _=>0) (fun _=>0) (fun _=>0)) (hb:Below w.heap.size w W)
  (hx:Wn w A nx fx) (hfx:Wd fx nx) (hy:Wn w A' ny fy) (hfy:Wd fy ny) (hnx:nx <= N) (hny:ny <= N) :
  ∃ W2 W3,(Builtin.copy_ #[45,45] 3 #[.slice (some ⟨a,0,none⟩) N N,.slice A nx cx]).run Tryz.prog W = .ok (.int .i64 (nx:Int)) W2 /\
   (Builtin.copy_ #[45,45] 3 #[.slice (some ⟨b,0,none⟩) N N,.slice A' ny cy]).run Tryz.prog W2 = .ok (.int .i64 (ny:Int)) W3 /\
   W2.cell? ⟨p,1,none⟩ = some (.slice (some ⟨b,0,none⟩) N N) /\
   ∃ gx' gy',Euc W3 w.heap.size p N N a b c d N N gx' gy' (fun _=>0) (fun _=>0) /\ vs gx' N = vs fx nx /\ vs gy' N = vs fy ny /\ Below w.heap.size w W3:=by
 obtain ⟨W2,hcp,hr2,hg2⟩:=copy_run W a 0 N N nx cx N nx A (fun _=>0) fx h.rx (hx.below hb) oM oM
 have h2:=h.putX hg2 hr2 (cpy_zero hfx N)
 have hb2:=hb.grown hg2 hb.size (fun k hk=>by cases hk; exact h.B1)
 obtain ⟨W3,hcp3,hr3,hg3⟩:=copy_run W2 b 0 N N ny cy N ny A' (fun _=>0) fy h2.ry (hy.below hb2) oM oM
 have h3:=h2.putY hg3 hr3 (cpy_zero hfy N)
 have hb3:=hb2.grown hg3 hb2.size (fun k hk=>by cases hk; exact h.B2)
 exact ⟨W2,W3,hcp,hcp3,h2.field.1.2.1,_,_,h3,vs_cpy_zero hnx,vs_cpy_zero hny,hb3⟩
def RetEuc (w:World) (x y:Nat) (e:Ending) (w':World):Prop:=∃ p gx gy ga gb fx fy fa fb,e = .returned (.pointer (some ⟨p,0,none⟩)) /\ Euc w' w.heap.size p (wl x) (wl x) gx gy ga gb (wl x) (wl x) fx fy fa fb /\
   vs fx (wl x) = x /\ vs fy (wl x) = y /\ Below w.heap.size w w'
theorem newEuclid_any (v u:Value) (x y:Nat) (w:World) (hv:IsNat w v x) (hu:IsNat w u y) (hle:y <= x) (hn:wl x < 549755813888) :
  Calls Tryz.prog 237 #[v,u] w (RetEuc w x y):=by
 have hyx:=wl_mono hle
 have HVX:=hid (vs_dg_wl x)
 have HVY:=hid (vs_dg_wl y)
 obtain ⟨A,c,rfl,hc,hw⟩:=hv
 obtain ⟨A',c',rfl,hc',hw'⟩:=hu
 have H:=hid hw
 have H':=hid hw'
 clear hw hw'
 have hmk:=make_nat (wl x) oM
 go_enter Tryz.func237,Tryz.ntmps237
 go_wp2_with fail
 go_region
 all_goals
  generalize hW:World.drew (World.alloc _ _) = W
  obtain ⟨hE,hBW⟩:=euc_new w (wl x) _ _ _ _ _ W hW oM oM oM oM oM oM oM oM oM oM
  obtain ⟨⟨m0,_⟩,_⟩:=hE.field
  obtain ⟨W2,W3,hcp1,hcp2,m1,gx',gy',hE3,hvx,hvy,hB3⟩:=euc_fill w (wl x) _ _ _ _ _ (wl x) (wl y) c c' A A' (dg x) (dg y) W hE hBW H.out (Wd_dg _ _) H'.out (Wd_dg _ _) lR hyx
  rw [HVX.out] at hvx
  rw [HVY.out] at hvy
  have HE3:=hid hE3
  have HVX3:=hid hvx
  have HVY3:=hid hvy
  have HB3:=hid hB3
  clear hW hE hBW hE3 hvx hvy hB3
  go_wp2
  go_ret
  exact ⟨_,_,_,_,_,gx',gy',_,_,rfl,HE3.out,HVX3.out,HVY3.out,HB3.out⟩
def ShRel (w:World) (B p N g0 k:Nat) (wr:World):Prop :=
 ∃ n gx gy ga gb ka kb fx fy fa fb X Y,Euc wr B p N n gx gy ga gb ka kb fx fy fa fb /\ vs fx n = X /\ vs fy n = Y /\ wl X = n /\ Y <= X /\ Nat.gcd X Y = g0 /\ X + Y <= k /\ Below B w wr
def RetShort (w:World) (B g0:Nat) (e:Ending) (w':World):Prop :=
 ∃ v u X Y,e = .returned (.tuple #[v,u]) /\ IsNat w' v X /\ IsNat w' u Y /\ Nat.gcd X Y = g0 /\ wl Y <= 2 /\ Y <= X /\ wl X < 549755813888 /\ Below B w w'
theorem leap_both (w:World) (B p N n gx gy ga gb ka kb u0 v0 u1 v1 X Y kk:Nat) (ev:Bool) (fx fy fa fb:Nat -> Nat) (h:Euc w B p N n gx gy ga gb ka kb fx fy fa fb) (hN:N <= 549755813888)
  (hX:vs fx n = X) (hY:vs fy n = Y) (hnX:wl X = n) (hkk:0 < kk) (hg:Good (X / kk) (Y / kk) u0 v0 u1 v1 ev) (hv0:v0 ≠ 0) :
  Calls Tryz.prog 245 #[.pointer (some ⟨p,0,none⟩),.agg #[.int .u32 (u0:Int),.int .u32 (u1:Int),.int .u32 (v0:Int),.int .u32 (v1:Int),.bool ev]] w fun e w'=>e = .returned (.tuple #[]) /\
   ∃ X' Y' fx' fy',Leaps X Y X' Y' /\ Euc w' B p N (wl X') ga gb gx gy n n fx' fy' fx fy /\ vs fx' (wl X') = X' /\ vs fy' (wl X') = Y' /\ Below B w w':=by
 obtain ⟨l1,l2,l3,l4,hf⟩:=hg
 rcases hf with hf | ⟨a1,a2,q,c,hc,hq,he⟩
 ·exact absurd hf hv0
 have hlt:X < 4294967296 ^ n:=by rw [<- hnX]; exact lt_wl X
 cases ev
 ·simp only [Bool.false_eq_true,if_false] at he
  obtain ⟨e1,e2,e3⟩:=he
  obtain ⟨b1,b2,b3⟩:=leap_false hkk hv0 a1 a2 hc hq e1 e2 e3
  exact (leap_any2 w B p N n gx gy ga gb ka kb u0 v0 u1 v1 _ _ fx fy fa fb h hN l1 l2 l3 l4 (by rw [hX,hY]; exact b1) (by rw [hX,hY]; exact b2) (by rw [hX,hY]) (by rw [hX,hY]) b3.1 (by have:=b3.2.1; omega)).mono
   fun e w' ⟨h1,fx',fy',h2,h3,h4,h5⟩=>⟨h1,_,_,fx',fy',b3,h2,h3,h4,h5⟩
 ·simp only [if_true] at he
  obtain ⟨e1,e2,e3⟩:=he
  obtain ⟨b1,b2,b3⟩:=leap_true hkk hv0 a2 hc hq e1 e2 e3
  exact (leap_any w B p N n gx gy ga gb ka kb u0 v0 u1 v1 _ _ fx fy fa fb h hN l1 l2 l3 l4 (by rw [hX,hY]; exact b1) (by rw [hX,hY]; exact b2) (by rw [hX,hY]) (by rw [hX,hY]) b3.1 (by have:=b3.2.1; omega)).mono
   fun e w' ⟨h1,fx',fy',h2,h3,h4,h5⟩=>⟨h1,_,_,fx',fy',b3,h2,h3,h4,h5⟩
theorem gcd_step (X Y:Nat):Nat.gcd Y (X % Y) = Nat.gcd X Y:=by
 rw [Nat.gcd_comm Y (X % Y),<- Nat.gcd_rec Y X,Nat.gcd_comm]
theorem shorten_any (w:World) (B p N n gx gy ga gb ka kb X Y:Nat) (fx fy fa fb:Nat -> Nat) (h:Euc w B p N n gx gy ga gb ka kb fx fy fa fb) (hN:N < 549755813888)
  (hX:vs fx n = X) (hY:vs fy n = Y) (hnX:wl X = n) (hle:Y <= X) :
  Calls Tryz.prog 238 #[.pointer (some ⟨p,0,none⟩)] w (RetShort w B (Nat.gcd X Y)):=by
 have H0:=hid (show ShRel w B p N (Nat.gcd X Y) (X + Y) w from ⟨n,gx,gy,ga,gb,ka,kb,fx,fy,fa,fb,X,Y,h,hX,hY,hnX,hle,rfl,Nat.le_refl _,Below.refl _ _⟩)
 generalize Nat.gcd X Y = g0 at *
 generalize X + Y = k0 at *
 clear h hX hY hnX hle
 go_enter Tryz.func238,Tryz.ntmps238
 go_wp2_with fail
 go_loopg [] k0 (fun k wr=>ShRel w B p N g0 k wr)
 case atStart=>exact H0.out
 case round =>
  clear H0
  obtain ⟨n,gx,gy,ga,gb,ka,kb,fx,fy,fa,fb,X,Y,hE,hX,hY,hnX,hle,hg,hk,hb⟩:=hrel
  have HE:=hid hE
  have HXX:=hid hX
  have HYY:=hid hY
  have HNX:=hid hnX
  have HG:=hid hg
  have HB:=hid hb
  have n1:=hE.nN
  have hwy:=hE.wy
  have htl:tl fy n = wl Y:=by rw [tl_eq hE.wy,hY]
  have hlY:wl Y <= n:=by rw [<- hnX]; exact wl_mono hle
  have HTL:=hid htl
  have hxn:IsNat wr (.slice (some ⟨gx,0,none⟩) n N) X:=by
   have h1:=IsNat.mk_tl (c:=N) (hE.rx.wn0.mono n1) hE.wx n1
   rw [tl_eq hE.wx,hX,hnX] at h1
   exact h1
  have HXN:=hid hxn
  clear hxn
  obtain ⟨⟨m0,m1,_,_⟩,_,mp⟩:=hE.field
  have htrim:=trim_at (some ⟨gy,0,none⟩) n N fy wr (hE.ry.wn0.mono n1) hwy n1 oM
  rw [htl,hY] at htrim
  have HT:=hid htrim
  clear hE hX hY hnX hg hb htl htrim
  go_wp2_with fail
  refine HT.out.mono ?_
  rintro e w1 ⟨rfl,hyn,rfl⟩
  have HYN:=hid hyn
  clear hyn
  by_cases h2:wl Y <= 2
  ·go_wp2
   go_ret2
   exact ⟨_,_,X,Y,rfl,HXN.out,HYN.out,HG.out,h2,hle,by rw [HNX.out]; omega,HB.out⟩
  ·have h2':¬ ((wl Y:Nat):Int) <= 2:=oM
   obtain ⟨n3,hn3⟩:∃ n3,n = n3 + 3:=⟨n - 3,oM⟩
   subst hn3
   have htop:fx (n3 + 2) ≠ 0:=by
    have h1:=top_dg (x:=X) (by rw [HNX.out]; omega)
    rw [HNX.out] at h1
    have h3:=dg_vs HE.out.wx (n3 + 2) oM
    rw [HXX.out] at h3
    rw [h3]; exact h1
   have hfo:∀ W0,Below wr.heap.size wr W0 -> Calls Tryz.prog 243 #[.slice (some ⟨gx,0,none⟩) (n3 + 3) N,.slice (some ⟨gy,0,none⟩) (n3 + 3) N] W0 fun e W2=>∃ (kk u0 v0 u1 v1:Nat) (ev:Bool),e = .returned (.agg #[.int .u32 (u0:Int),.int .u32 (u1:Int),.int .u32 (v0:Int),.int .u32 (v1:Int),.bool ev]) /\
     0 < kk /\ Good (X / kk) (Y / kk) u0 v0 u1 v1 ev /\ Below wr.heap.size wr W2 /\ Below W0.heap.size W0 W2:=fun W0 h0=>by
    have hf:=foresee_any n3 N N (some ⟨gx,0,none⟩) (some ⟨gy,0,none⟩) fx fy W0 ((HE.out.rx.wn0.mono n1).below h0) HE.out.wx ((HE.out.ry.wn0.mono n1).below h0) HE.out.wy htop (by rw [HXX.out,HYY.out]; exact hle) oM
    rw [HXX.out,HYY.out] at hf
    exact hf.mono fun e W2 ⟨kk,u0,v0,u1,v1,ev,h1,h2,h3,h4⟩=>⟨kk,u0,v0,u1,v1,ev,h1,h2,h3,bT h0 h4,h4⟩
   have HFO:=hid hfo
   have hkp:∀ W2,Below wr.heap.size wr W2 -> W2.cell? ⟨p,0,none⟩ = some (.slice (some ⟨gx,0,none⟩) (n3 + 3) N) /\ W2.cell? ⟨p,1,none⟩ = some (.slice (some ⟨gy,0,none⟩) (n3 + 3) N):=fun W2 hb =>
    ⟨(hb.cell (p:=⟨p,0,none⟩) mp).trans m0,(hb.cell (p:=⟨p,1,none⟩) mp).trans m1⟩
   have HKP:=hid hkp
   have hbx:∀ W2,Below ((wr.alloc (.cells #[.int .u32 0,.int .u32 0,.int .u32 0,.int .u32 0,.bool false] 254)).drew).heap.size ((wr.alloc (.cells #[.int .u32 0,.int .u32 0,.int .u32 0,.int .u32 0,.bool false] 254)).drew) W2 ->
     (W2.cell? ⟨wr.heap.size,0,none⟩ = some (.int .u32 0) /\ W2.cell? ⟨wr.heap.size,1,none⟩ = some (.int .u32 0) /\ W2.cell? ⟨wr.heap.size,2,none⟩ = some (.int .u32 0) /\ W2.cell? ⟨wr.heap.size,3,none⟩ = some (.int .u32 0) /\ W2.cell? ⟨wr.heap.size,4,none⟩ = some (.bool false)) /\
     W2.frozen? ⟨wr.heap.size,0,none⟩ = false /\ W2.frozen? ⟨wr.heap.size,1,none⟩ = false /\ W2.frozen? ⟨wr.heap.size,2,none⟩ = false /\ W2.frozen? ⟨wr.heap.size,3,none⟩ = false /\ W2.frozen? ⟨wr.heap.size,4,none⟩ = false:=fun W2 hb=>by
    have hh:=hb.block wr.heap.size sP
    have h2:W2.heap[wr.heap.size]? = some (.cells #[.int .u32 0,.int .u32 0,.int .u32 0,.int .u32 0,.bool false] 254 (0,0)):=hh.trans (heap_alloc_new wr _)
    refine ⟨⟨?_,?_,?_,?_,?_⟩,?_,?_,?_,?_,?_⟩
    ·rw [cell_of_row W2 _ 0 _ _ (0,0) h2]; rfl
    ·rw [cell_of_row W2 _ 1 _ _ (0,0) h2]; rfl
    ·rw [cell_of_row W2 _ 2 _ _ (0,0) h2]; rfl
    ·rw [cell_of_row W2 _ 3 _ _ (0,0) h2]; rfl
    ·rw [cell_of_row W2 _ 4 _ _ (0,0) h2]; rfl
    all_goals simp [World.frozen?,h2]
   have HBX:=hid hbx
   have hf1:=hfo (wr.alloc (.cells #[.int .u32 0,.int .u32 0,.int .u32 0,.int .u32 0,.bool false] 254)).drew (below_alloc wr _).drew
   have hf2:=hfo wr.drew (Below.refl _ wr).drew
   have HF1:=hid hf1
   have HF2:=hid hf2
   clear hfo hkp hbx htop hf1 hf2 HFO
   have pn1:¬ wr.heap.size = p:=oM
   have pn2:¬ p = wr.heap.size:=oM
   go_wp2_with fail
   go_region_held3 (fun w'=>w'.cell? ⟨p,0,none⟩ = some (.slice (some ⟨gx,0,none⟩) (n3 + 3) N) /\ w'.cell? ⟨p,1,none⟩ = some (.slice (some ⟨gy,0,none⟩) (n3 + 3) N)) (go_keep) (first | (go_at_call 243; (with_reducible refine HF1.out.mono ?_); rintro e W2 ⟨kk,u0,v0,u1,v1,ev,rfl,hkk,hgood,hb2,hb3⟩; obtain ⟨k1,k2⟩:=HKP.out _ hb2; obtain ⟨⟨z0,z1,z2,z3,z4⟩,y0,y1,y2,y3,y4⟩:=HBX.out _ hb3) | (go_at_call 243; (with_reducible refine HF2.out.mono ?_); rintro e W2 ⟨kk,u0,v0,u1,v1,ev,rfl,hkk,hgood,hb2,hb3⟩; obtain ⟨k1,k2⟩:=HKP.out _ hb2; have pn3:¬ W2.heap.size = p:=(fun e=>Nat.lt_irrefl p (lL mp (Nat.le_trans hb2.size (Nat.le_of_eq e)))); have pn4:¬ p = W2.heap.size:=(fun e=>pn3 e.symm)))
   all_goals
    have hYp:0 < Y:=Nat.pos_of_ne_zero (fun e=>by rw [e,wl_zero] at h2; omega)
    have HGOOD:=hid hgood
    clear hgood
   ·generalize hW3:World.alloc W2 _ = W3
    have hb03:Below wr.heap.size wr W3:=by rw [<- hW3]; exact bT hb2 (below_alloc _ _)
    have q0:W3.cell? ⟨W2.heap.size,0,none⟩ = some (.int .u32 (u0:Int)):=by rw [<- hW3]; simp
    have q1:W3.cell? ⟨W2.heap.size,1,none⟩ = some (.int .u32 (u1:Int)):=by rw [<- hW3]; simp
    have q2:W3.cell? ⟨W2.heap.size,2,none⟩ = some (.int .u32 (v0:Int)):=by rw [<- hW3]; simp
    have q3:W3.cell? ⟨W2.heap.size,3,none⟩ = some (.int .u32 (v1:Int)):=by rw [<- hW3]; simp
    have q4:W3.cell? ⟨W2.heap.size,4,none⟩ = some (.bool ev):=by rw [<- hW3]; simp
    have HB03:=hid hb03
    clear hW3 hb03 hb2 hb3 k1 k2 pn3 pn4
    by_cases hv0:v0 = 0
    ·subst hv0
     go_wp2_with fail
     refine (divide_any W3 B p N (n3 + 3) gx gy ga gb ka kb X Y fx fy fa fb (HE.out.below HB03.out) hN HXX.out HYY.out HNX.out hle hYp).mono ?_
     rintro e W4 ⟨rfl,fx',fy',hE4,hx4,hy4,hb4⟩
     have HE4:=hid hE4
     have HX4:=hid hx4
     have HY4:=hid hy4
     have HB4:=hid (HB.out.trans ((HB03.out.mono (Nat.le_of_lt (Nat.lt_of_le_of_lt HE.out.B1 HE.out.rx.lt))).trans hb4))
     have hml:X % Y < Y:=Nat.mod_lt _ hYp
     clear hE4 hx4 hy4 hb4
     go_wp2
     go_roundg (Y + X % Y)
     case measure=>omega
     case rel=>exact ⟨wl Y,gy,gx,ga,gb,ka,kb,fx',fy',fa,fb,Y,X % Y,HE4.out,HX4.out,HY4.out,rfl,Nat.le_of_lt hml,by rw [gcd_step]; exact HG.out,Nat.le_refl _,HB4.out⟩
    ·have hvn:((v0:Int) == 0) = false:=sO
     go_wp2_with fail
     refine (leap_both W3 B p N (n3 + 3) gx gy ga gb ka kb u0 v0 u1 v1 X Y kk ev fx fy fa fb (HE.out.below HB03.out) oM HXX.out HYY.out HNX.out hkk HGOOD.out hv0).mono ?_
     rintro e W4 ⟨rfl,X',Y',fx',fy',hlp,hE4,hx4,hy4,hb4⟩
     have HE4:=hid hE4
     have HX4:=hid hx4
     have HY4:=hid hy4
     have HLP:=hid hlp
     have HB4:=hid (HB.out.trans ((HB03.out.mono (Nat.le_of_lt (Nat.lt_of_le_of_lt HE.out.B1 HE.out.rx.lt))).trans hb4))
     have hml:X' + Y' <= X:=hlp.2.1
     clear hE4 hx4 hy4 hb4 hlp
     go_wp2
     go_roundg (X' + Y')
     case measure=>omega
     case rel=>exact ⟨wl X',ga,gb,gx,gy,n3 + 3,n3 + 3,fx',fy',fx,fy,X',Y',HE4.out,HX4.out,HY4.out,rfl,HLP.out.1,by rw [HLP.out.2.2]; exact HG.out,Nat.le_refl _,HB4.out⟩
   ·generalize hW3:World.setCell _ _ _ = W3
    have hb03:Below wr.heap.size wr W3:=by
     rw [<- hW3]
     exact ((((hb2.setCell lR _).setCell lR _).setCell lR _).setCell lR _).setCell lR _
    have hh:W3.heap[wr.heap.size]? = some (.cells #[.int .u32 (u0:Int),.int .u32 (u1:Int),.int .u32 (v0:Int),.int .u32 (v1:Int),.bool ev] 254 (0,0)):=by
     have h1:=hb3.block wr.heap.size sP
     have h2:W2.heap[wr.heap.size]? = some (.cells #[.int .u32 0,.int .u32 0,.int .u32 0,.int .u32 0,.bool false] 254 (0,0)):=h1.trans (heap_alloc_new wr _)
     rw [<- hW3]
     exact heap_set_cells (heap_set_cells (heap_set_cells (heap_set_cells (heap_set_cells h2 _ _) _ _) _ _) _ _) _ _
    have q0:W3.cell? ⟨wr.heap.size,0,none⟩ = some (.int .u32 (u0:Int)):=by rw [cell_of_row W3 _ 0 _ _ (0,0) hh]; rfl
    have q1:W3.cell? ⟨wr.heap.size,1,none⟩ = some (.int .u32 (u1:Int)):=by rw [cell_of_row W3 _ 1 _ _ (0,0) hh]; rfl
    have q2:W3.cell? ⟨wr.heap.size,2,none⟩ = some (.int .u32 (v0:Int)):=by rw [cell_of_row W3 _ 2 _ _ (0,0) hh]; rfl
    have q3:W3.cell? ⟨wr.heap.size,3,none⟩ = some (.int .u32 (v1:Int)):=by rw [cell_of_row W3 _ 3 _ _ (0,0) hh]; rfl
    have q4:W3.cell? ⟨wr.heap.size,4,none⟩ = some (.bool ev):=by rw [cell_of_row W3 _ 4 _ _ (0,0) hh]; rfl
    have HB03:=hid hb03
    clear hW3 hb03 hb2 hb3 k1 k2 z0 z1 z2 z3 z4 y0 y1 y2 y3 y4 hh
    by_cases hv0:v0 = 0
    ·subst hv0
     go_wp2_with fail
     refine (divide_any W3 B p N (n3 + 3) gx gy ga gb ka kb X Y fx fy fa fb (HE.out.below HB03.out) hN HXX.out HYY.out HNX.out hle hYp).mono ?_
     rintro e W4 ⟨rfl,fx',fy',hE4,hx4,hy4,hb4⟩
     have HE4:=hid hE4
     have HX4:=hid hx4
     have HY4:=hid hy4
     have HB4:=hid (HB.out.trans ((HB03.out.mono (Nat.le_of_lt (Nat.lt_of_le_of_lt HE.out.B1 HE.out.rx.lt))).trans hb4))
     have hml:X % Y < Y:=Nat.mod_lt _ hYp
     clear hE4 hx4 hy4 hb4
     go_wp2
     go_roundg (Y + X % Y)
     case measure=>omega
     case rel=>exact ⟨wl Y,gy,gx,ga,gb,ka,kb,fx',fy',fa,fb,Y,X % Y,HE4.out,HX4.out,HY4.out,rfl,Nat.le_of_lt hml,by rw [gcd_step]; exact HG.out,Nat.le_refl _,HB4.out⟩
    ·have hvn:((v0:Int) == 0) = false:=sO
     go_wp2_with fail
     refine (leap_both W3 B p N (n3 + 3) gx gy ga gb ka kb u0 v0 u1 v1 X Y kk ev fx fy fa fb (HE.out.below HB03.out) oM HXX.out HYY.out HNX.out hkk HGOOD.out hv0).mono ?_
     rintro e W4 ⟨rfl,X',Y',fx',fy',hlp,hE4,hx4,hy4,hb4⟩
     have HE4:=hid hE4
     have HX4:=hid hx4
     have HY4:=hid hy4
     have HLP:=hid hlp
     have HB4:=hid (HB.out.trans ((HB03.out.mono (Nat.le_of_lt (Nat.lt_of_le_of_lt HE.out.B1 HE.out.rx.lt))).trans hb4))
     have hml:X' + Y' <= X:=hlp.2.1
     clear hE4 hx4 hy4 hb4 hlp
     go_wp2
     go_roundg (X' + Y')
     case measure=>omega
     case rel=>exact ⟨wl X',ga,gb,gx,gy,n3 + 3,n3 + 3,fx',fy',fx,fy,X',Y',HE4.out,HX4.out,HY4.out,rfl,HLP.out.1,by rw [HLP.out.2.2]; exact HG.out,Nat.le_refl _,HB4.out⟩
end Go.Proofs.YtjodlmanheeajaaGreatDoor
