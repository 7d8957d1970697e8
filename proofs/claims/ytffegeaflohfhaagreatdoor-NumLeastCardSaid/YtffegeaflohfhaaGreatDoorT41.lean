import Derived.Test.YtffegeaflohfhaaGreatDoorT29
import Derived.Test.YtffegeaflohfhaaGreatDoorS40
import Derived.Test.YtffegeaflohfhaaGreatDoorS02
set_option linter.unusedVariables false
set_option linter.unusedSimpArgs false
set_option maxRecDepth 100000
set_option maxHeartbeats 8000000
namespace Go.Proofs.YtffegeaflohfhaaGreatDoor
open Go.RowKit
structure PMV (B:Nat) (W:World) (go:Nat) (gi:Nat -> Nat) (n m k:Nat) (V:Nat -> Nat -> Prop) (F:Nat -> Nat -> Cx):Prop where
 sep:MatSep B go gi k
 kn:k <= n
 cells:∃ cs:Array Value,W.heap[go]? = some (.cells cs 50 (0,0)) /\ cs.size = n /\ (∀ i,i < k -> cs[i]? = some (.slice (some ⟨gi i,0,none⟩) m m)) /\ (∀ i,k <= i -> i < n -> cs[i]? = some (.slice none 0 0))
 rows:∀ i,i < k -> QBlk W (gi i) m (V i) (F i)
section
variable {B:Nat} {W W':World} {go:Nat} {gi:Nat -> Nat} {n m k:Nat} {V V':Nat -> Nat -> Prop} {F F':Nat -> Nat -> Cx}
theorem PMV.lt (h:PMV B W go gi n m k V F):go < W.heap.size:=by
 obtain ⟨cs,h,-⟩:=h.cells
 exact heap_ge_none h
theorem PMV.below (h:PMV B W go gi n m k V F) (hb:Below W.heap.size W W'):PMV B W' go gi n m k V F:=by
 have hlt:=h.lt
 obtain ⟨cs,h1,h2,h3,h4⟩:=h.cells
 exact ⟨h.sep,h.kn,⟨cs,(hb.block _ hlt).trans h1,h2,h3,h4⟩,fun i hi=>(h.rows i hi).below hb⟩
theorem PMV.cell (h:PMV B W go gi n m k V F) {i:Nat} (hi:i < k):W.cell? ⟨go,i,none⟩ = some (.slice (some ⟨gi i,0,none⟩) m m):=by
 obtain ⟨cs,h1,h2,h3,-⟩:=h.cells
 rw [cell_of_row W go i cs _ (0,0) h1]
 exact h3 i hi
theorem PMV.cell_nil (h:PMV B W go gi n m k V F) {i:Nat} (hk:k <= i) (hi:i < n):W.cell? ⟨go,i,none⟩ = some (.slice none 0 0):=by
 obtain ⟨cs,h1,h2,-,h4⟩:=h.cells
 rw [cell_of_row W go i cs _ (0,0) h1]
 exact h4 i hk hi
theorem PMV.frozen (h:PMV B W go gi n m k V F) (i:Nat):W.frozen? ⟨go,i,none⟩ = false:=by
 obtain ⟨cs,h1,-⟩:=h.cells
 simp [World.frozen?,h1]
theorem PMV.done (h:PMV B W go gi n m n V F) (hV:∀ i j,i < n -> j < m -> V i j):MatQ W go gi n m F /\ MatSep B go gi n:=by
 obtain ⟨cs,h1,h2,h3,-⟩:=h.cells
 exact ⟨⟨cs,h1,h2,h3,fun i hi=>(h.rows i hi).to fun j hj _=>⟨hV i j hi hj,rfl⟩⟩,h.sep⟩
theorem PMV.to (h:PMV B W go gi n m k V F) (hV:∀ i j,i < k -> j < m -> V' i j -> V i j /\ F i j = F' i j):PMV B W go gi n m k V' F' :=
 ⟨h.sep,h.kn,h.cells,fun i hi=>(h.rows i hi).to fun j hj hv=>hV i j hi hj hv⟩
theorem PMV.row (h:PMV B W go gi n m k V F) (hb:Below W.heap.size W W') {g:Nat} (hg:W.heap.size <= g) (hr:QBlk W' g m (V k) (F k)) (hk:k < n) :
  PMV B (W'.setCell ⟨go,k,none⟩ (.slice (some ⟨g,0,none⟩) m m)) go (upf gi k g) n m (k + 1) V F /\ But W' (W'.setCell ⟨go,k,none⟩ (.slice (some ⟨g,0,none⟩) m m)) go /\ Ext W' (W'.setCell ⟨go,k,none⟩ (.slice (some ⟨g,0,none⟩) m m)):=by
 have hgo:=h.lt
 have h':=h.below hb
 obtain ⟨cs,h1,h2,h3,h4⟩:=h'.cells
 have hbut:But W' (W'.setCell ⟨go,k,none⟩ (.slice (some ⟨g,0,none⟩) m m)) go:=by
  rw [setCell_eq_setRow W' go k cs _ (0,0) _ h1]
  exact But.setRow _ _ _
 have hodd:oddB cs = true:=by
  unfold oddB
  rw [List.all_eq_true]
  intro v hv
  obtain ⟨i,hi,rfl⟩:=List.getElem_of_mem hv
  have hi':i < n:=by simpa [h2] using hi
  have hget:∀ u,cs[i]? = some u -> cs.toList[i] = u:=fun u hu=>by
   obtain ⟨hlt,hu⟩:=Array.getElem?_eq_some_iff.1 hu
   simpa using hu
  rcases Nat.lt_or_ge i k with hik | hik
  ·rw [hget _ (h3 i hik)]
  ·rw [hget _ (h4 i hik hi')]
 have hext:=hbut.ext h1 hodd
 have hgi:∀ i,i < k -> gi i < W.heap.size:=fun i hi=>(h.rows i hi).lt
 refine ⟨?_,hbut,hext⟩
 refine ⟨⟨h.sep.lo,fun i hi=>?_,fun i hi=>?_,fun i j hi hj e=>?_⟩,oM,⟨cs.setIfInBounds k (.slice (some ⟨g,0,none⟩) m m),?_,by simp [h2],fun i hi=>?_,fun i hi hin=>?_⟩,fun i hi=>?_⟩
 ·by_cases hik:i = k
  ·rw [hik,upf_same]; have:=h.sep.lo; omega
  ·rw [upf_other _ _ hik]; exact h.sep.los i oM
 ·by_cases hik:i = k
  ·rw [hik,upf_same]; omega
  ·rw [upf_other _ _ hik]; exact h.sep.ne i oM
 ·by_cases hik:i = k
  ·by_cases hjk:j = k
   ·omega
   ·rw [hik,upf_same,upf_other _ _ hjk] at e
    have:=hgi j oM
    omega
  ·by_cases hjk:j = k
   ·rw [hjk,upf_same,upf_other _ _ hik] at e
    have:=hgi i oM
    omega
   ·rw [upf_other _ _ hik,upf_other _ _ hjk] at e
    exact h.sep.inj i j oM oM e
 ·rw [setCell_eq_setRow W' go k cs _ (0,0) _ h1]
  exact setRow_heap W' go cs _ _ _ h1
 ·rw [Array.getElem?_setIfInBounds]
  by_cases hik:k = i
  ·subst hik
   rw [if_pos rfl,if_pos oM,upf_same]
  ·rw [if_neg hik,upf_other _ _ (fun e=>hik e.symm)]
   exact h3 i oM
 ·rw [Array.getElem?_setIfInBounds,if_neg oM]
  exact h4 i oM hin
 ·by_cases hik:i = k
  ·rw [hik,upf_same]
   exact hr.but hbut hext oM
  ·rw [upf_other _ _ hik]
   exact (h'.rows i oM).but hbut hext (h.sep.ne i oM)
theorem PMV.set (h:PMV B W go gi n m k V F) {i:Nat} (hi:i < k) {f:Nat -> Cx} {U:Nat -> Prop} (hb:But W W' (gi i)) (he:Ext W W') (hr:QBlk W' (gi i) m U f):PMV B W' go gi n m k (upf V i U) (upf F i f):=by
 obtain ⟨cs,h1,h2,h3,h4⟩:=h.cells
 refine ⟨h.sep,h.kn,⟨cs,(hb.other _ (Ne.symm (h.sep.ne i hi))).trans h1,h2,h3,h4⟩,fun j hj=>?_⟩
 by_cases hji:j = i
 ·subst hji
  rw [upf_same,upf_same]
  exact hr
 ·rw [upf_other _ _ hji,upf_other _ _ hji]
  exact (h.rows j hj).ext he (hb.other _ fun e=>hji (h.sep.inj j i hj hi e))
end
theorem make_pmv (n m:Nat) (hn:n <= 1099511627776) (w:World) (V:Nat -> Nat -> Prop) (F:Nat -> Nat -> Cx) (gi:Nat -> Nat):∃ w',(Instr.makeSlice 28 (.int .i64 (n:Int)) (.int .i64 (n:Int))).run Tryz.prog w = .ok (.slice (some ⟨w.heap.size,0,none⟩) n n) w' /\
  Below w.heap.size w w' /\ w'.heap.size = w.heap.size + 1 /\ PMV w.heap.size w' w.heap.size gi n m 0 V F:=by
 obtain ⟨w',h1,h2,h3,h4⟩:=make_matq n m hn w F gi
 exact ⟨w',h1,h2,h3,⟨h4.sep,h4.kn,h4.cells,fun i hi=>absurd hi oM⟩⟩
theorem Cx.int_zero':Cx.int 0 = .zero:=by apply Cx.ext <;> simp [Cx.int,Cx.zero]
theorem rZeros_any (w:World) (n m:Nat) (hn:n <= 1099511627776) (hm:m <= 1099511627776) :
  Calls Tryz.prog 62 #[.int .i64 (n:Int),.int .i64 (m:Int)] w fun e w'=>∃ gi,e = .returned (.slice (some ⟨w.heap.size,0,none⟩) n n) /\ MatQ w' w.heap.size gi n m (fun _ _=>.zero) /\ MatSep w.heap.size w.heap.size gi n /\ Below w.heap.size w w':=by
 obtain ⟨W1,hr1,hb1,hs1,hP1⟩:=make_pmv n m hn w (fun _ _=>True) (fun _ _=>.zero) (fun _=>0)
 have HW:=hid (fun W=>rWhole_any 0 W oM oM)
 rw [Cx.int_zero'] at HW
 have HB:=hid hb1
 have HP:=hid hP1
 clear hb1 hP1
 go_enter Tryz.func62,Tryz.ntmps62
 go_wp2
 clear hr1
 go_loopw [6] (fun iv wr=>∃ (i:Nat) (gi:Nat -> Nat),iv = .int .i64 (i:Int) /\ i <= n /\ Below w.heap.size w wr /\ PMV w.heap.size wr w.heap.size gi n m i (fun _ _=>True) (fun _ _=>.zero)) (fun iv _=>n - (intOf iv).toNat)
 case atStart=>exact ⟨0,_,rfl,oM,HB.out,HP.out⟩
 case round =>
  clear HB HP
  obtain ⟨i,gi,rfl,hi,hB,hP⟩:=hrel
  by_cases hlt:i < n
  ·obtain ⟨W2,hr2,hb2,hs2,hN2⟩:=make_rowq m hm wr
   have P2:=hP.below hb2
   have f1:=P2.cell_nil (Nat.le_refl i) hlt
   have f2:=P2.frozen i
   obtain ⟨P3,hB2,hE2⟩:=(hP.to (V':=fun a b=>a < i) (F':=fun _ _=>.zero) fun _ _ _ _ _=>⟨trivial,rfl⟩).row hb2 lR (hN2.to (V':=fun _=>i < i) (f':=fun _=>.zero) fun j _ h=>absurd h oM) hlt
   have K4:=hid P3
   have L4:=hid (hB2.below (bT hB hb2) lR)
   clear P3 hB2 hE2 P2 hP hB hb2 hs2 hN2
   obtain ⟨g2,hg2⟩:∃ g2,g2 = upf gi i wr.heap.size:=⟨_,rfl⟩
   rw [<- hg2] at K4
   clear hg2
   have hi1:i < i + 1:=Nat.lt_succ_self i
   go_wp2
   clear hr2 f1 f2
   go_loopw [7] (fun kv wx=>∃ k:Nat,kv = .int .i64 (k:Int) /\ k <= m /\ Below w.heap.size w wx /\ PMV w.heap.size wx w.heap.size g2 n m (i + 1) (fun a b=>a < i ∨ b < k) (fun _ _=>.zero)) (fun kv _=>m - (intOf kv).toNat)
   case atStart=>exact ⟨0,rfl,oM,L4.out,K4.out.to fun a b _ _ h=>⟨h.resolve_right oM,rfl⟩⟩
   case round =>
    clear L4 K4
    obtain ⟨k,rfl,hkm,hB,hP⟩:=hrel
    have KB:=hid hB
    have HM:=hid hP
    clear hB hP
    by_cases hk:k < m
    ·have hk0:(0:Int) <= (k:Int):=oM
     have hk1:(k:Int) < (m:Int):=oM
     go_upto_region 9 with fail
     refine region_last [.val (kIs (.slice (some ⟨w.heap.size,0,none⟩) n n)),.val (kIs (.int .i64 (i:Int))),.val (kIs (.pointer (some ⟨w.heap.size,i,none⟩))),.val (kIs (.slice (some ⟨g2 i,0,none⟩) m m)),.val (kIs (.int .i64 (k:Int))),.val (kQ .zero),.val (kIs (.pointer (some ⟨g2 i,5 * k,none⟩)))]
      kR kR kR kR kR ⟨Stab.b (stab_is _),Stab.b (stab_is _),Stab.b (stab_is _),Stab.b (stab_is _),Stab.b (stab_is _),stabB_q _,Stab.b (stab_is _),trivial⟩ sP (ol:=_) rfl kR ⟨?_,?_,?_,?_,?_,?_,?_,trivial⟩ ?_
     ·exact obp
     ·exact obp
     ·intro ts W hb hB hp; have h0:ts 0 = _:=hp 0 kR; have h1:ts 1 = _:=hp 1 kR; intro K hK; simp only [fillT,zA,Nat.reduceAdd,sA,sB,sC,h0,h1] at hK ⊢; have HK:=hid hK; clear hK hp; refine ⟨?_⟩; go_simp; exact HK.out _ _ rfl rfB
     ·intro ts W hb hB hp; have h2:ts 2 = _:=hp 2 kR; intro K hK; simp only [fillT,zA,Nat.reduceAdd,sA,sB,sC,h2] at hK ⊢; have HK:=hid hK; clear hK hp; have hcell:=(HM.out.below hb).cell hi1; refine ⟨?_⟩; go_simp; exact HK.out _ _ rfl rfB
     ·exact obp
     ·intro ts W hb hB hp K hK; simp only [fillT,zA,Nat.reduceAdd,sA,sB,sC] at hK ⊢; have HK:=hid hK; clear hK hp; refine ⟨?_⟩; go_simp; refine (HW.out W).mono ?_; rintro e W9 ⟨r9,rfl,hr9,hb9⟩; exact HK.out _ _ hr9 hb9
     ·intro ts W hb hB hp; have h3:ts 3 = _:=hp 3 kR; have h4:ts 4 = _:=hp 4 kR; intro K hK; simp only [fillT,zA,Nat.reduceAdd,sA,sB,sC,h3,h4] at hK ⊢; have HK:=hid hK; clear hK hp; refine ⟨?_⟩; go_simp; exact HK.out _ _ (by simp [kIs,Nat.mul_comm]) rfB
     intro ts W3 hb3 hh hap K hK
     have h9:=held_q (hh 5 sP) rfl
     have e9:=held_is (hh 6 sP) rfl
     have HK:=hid hK
     clear hK hh hap
     simp only [fillT,zA,Nat.reduceAdd,sA,sB,sC,e9]
     refine ⟨?_⟩
     refine wp_store_qe rfl (k:=k) rfl rfl ((HM.out.below hb3).rows _ hi1) hk h9 (fun W4 hbut hext hrow=>HK.out _ _ ?_)
     clear e9 h9
     have M3:=(HM.out.below hb3).set hi1 hbut hext hrow
     have M4:=hid (M3.to (V':=fun a b=>a < i ∨ b < k + 1) (F':=fun _ _=>.zero) fun a b ha hb hv=>by
      by_cases h:a = i
      ·subst h
       rw [upf_same,upf_same]
       refine ⟨?_,?_⟩
       ·by_cases h2:b = k
        ·exact .inr h2
        ·exact .inl oM
       ·unfold upf; split <;> rfl
      ·rw [upf_other _ _ h,upf_other _ _ h]
       exact ⟨.inl oM,rfl⟩)
     have B4:=hid (hbut.below (bT KB.out hb3) (HM.out.sep.los i hi1))
     clear hbut hext hrow hb3 M3 HM KB
     go_wp2
     go_roundw
     case rel=>exact ⟨k + 1,by go_num,oM,B4.out,M4.out⟩
     case measure=>exact mS
    ·obtain rfl:k = m:=oM
     have HM3:=hid (HM.out.to (V':=fun _ _=>True) (F':=fun _ _=>.zero) fun a b ha hb _=>⟨.inr hb,rfl⟩)
     go_wp2
     go_roundw
     case rel=>exact ⟨i + 1,g2,by go_num,oM,KB.out,HM3.out⟩
     case measure=>exact mS
  ·obtain rfl:i = n:=oM
   have KB:=hid hB
   have HD:=hid (hP.done fun _ _ _ _=>trivial)
   clear hB hP
   go_wp2
   go_ret
   exact ⟨_,rfl,HD.out.1,HD.out.2,KB.out⟩
theorem MatQ.qss {W:World} {go:Nat} {gi:Nat -> Nat} {n m:Nat} {F:Nat -> Nat -> Cx} (h:MatQ W go gi n m F) (c:Nat):QSS W (.slice (some ⟨go,0,none⟩) n c) n (fun _=>m) F:=by
 refine ⟨_,c,rfl,fun _=>⟨go,gi,rfl,?_⟩⟩
 obtain ⟨cs,h1,h2,h3,h4⟩:=h
 exact ⟨cs,h1,h2,h3,h4⟩
def colsOf (n:Nat) (ml:Nat -> Nat):Nat:=if n = 0 then 0 else ml 0
def uptoS (Q:Nat -> Nat -> Cx) (S:Nat -> Cx) (i k t:Nat):Nat -> Nat -> Cx:=upm (upto Q i k) i k (S t)
theorem uptoS_next (Q:Nat -> Nat -> Cx) (S:Nat -> Cx) (i k t:Nat) (x:Cx):upm (uptoS Q S i k t) i k x = upm (upto Q i k) i k x:=by
 funext a b
 unfold uptoS upm upf
 by_cases h:a = i
 ·simp only [h,if_true]
  by_cases h2:b = k
  ·simp only [h2,if_true]
  ·simp only [if_neg h2]
 ·simp only [if_neg h]
theorem uptoS_self (Q:Nat -> Nat -> Cx) (S:Nat -> Cx) (i k t:Nat):uptoS Q S i k t i k = S t:=by
 unfold uptoS upm
 rw [upf_same,upf_same]
theorem uptoS_zero (Q:Nat -> Nat -> Cx) (S:Nat -> Cx) (i k:Nat) (h:S 0 = .zero):uptoS Q S i k 0 = upto Q i k:=by
 funext a b
 unfold uptoS upm upf
 by_cases h1:a = i
 ·simp only [h1,if_true]
  by_cases h2:b = k
  ·simp only [h2,if_true,h]
   unfold upto
   rw [if_neg oM]
  ·simp only [if_neg h2]
 ·simp only [if_neg h1]
theorem uptoS_done (Q:Nat -> Nat -> Cx) (S:Nat -> Cx) (i k t:Nat) (h:S t = Q i k):uptoS Q S i k t = upto Q i (k + 1):=by
 unfold uptoS
 rw [h]
 exact upto_next Q i k
theorem szsum {f:Nat -> Cx} {s:Nat} (p:Nat) (h:∀ j,j < p -> Sz (f j) s):∀ t,t <= p -> Sz (sm f 0 t) (t * (s + 1) + 1)
 | 0,_=>by
  rw [show sm f 0 0 = .zero from rfl]
  exact Sz.zero oM
 | t + 1,ht=>by
  have h1:=szsum p h t oM
  have h2:=h t oM
  rw [sm_last]
  have h3:=h1.add (show Sz (f (0 + t)) s by rw [Nat.zero_add]; exact h2)
  exact h3.mono (by rw [Nat.add_mul]; omega)
theorem rProduct_ok (w:World) (ga gb:Nat) (gi gj:Nat -> Nat) (n p q ca cb s s1:Nat) (F G:Nat -> Nat -> Cx) (hA:MatQ w ga gi n p F) (hB:MatQ w gb gj p q G) (hn:0 < n) (hp:0 < p) (hn1:n <= 32) (hp1:p <= 32) (hq1:q <= 32)
  (hF:∀ i t,i < n -> t < p -> Sz (F i t) s) (hG:∀ t k,t < p -> k < q -> Sz (G t k) s1) (hs:33 * (s + s1 + 3) < 549755813888) :
  Calls Tryz.prog 72 #[.slice (some ⟨ga,0,none⟩) n ca,.slice (some ⟨gb,0,none⟩) p cb] w fun e w'=>∃ go gk,e = .returned (.tuple #[.slice (some ⟨go,0,none⟩) n n,.int .i64 0]) /\ MatQ w' go gk n q (mulM p F G) /\ Below w.heap.size w w':=by
 have HV1:=hid (fun W (hb:Below w.heap.size w W)=>rValid_any W _ n _ F ((hA.below hb).qss ca) oM (fun _ _=>oM))
 have HV2:=hid (fun W (hb:Below w.heap.size w W)=>rValid_any W _ p _ G ((hB.below hb).qss cb) oM (fun _ _=>oM))
 have HC1:=hid (fun W (hb:Below w.heap.size w W)=>rColumns_any W _ n _ F ((hA.below hb).qss ca))
 have HC2:=hid (fun W (hb:Below w.heap.size w W)=>rColumns_any W _ p _ G ((hB.below hb).qss cb))
 rw [if_neg oM] at HC1 HC2
 have HZ:=hid (fun W=>rZeros_any W n q oM oM)
 have v1:Vld n (fun _=>p):=⟨hn1,fun _ _=>⟨rfl,hp1⟩⟩
 have v2:Vld p (fun _=>q):=⟨hp1,fun _ _=>⟨rfl,hq1⟩⟩
 have V1:=hid v1
 have V2:=hid v2
 have HA:=hid hA
 have HB:=hid hB
 have HSF:=hid hF
 have HSG:=hid hG
 have hss1:s + s1 + 1 < 549755813888:=oM
 obtain ⟨Q,hQ⟩:∃ Q,Q = mulM p F G:=⟨_,rfl⟩
 rw [<- hQ]
 have HQ:=hid hQ
 clear hA hB hF hG v1 v2 hQ
 go_enter Tryz.func72,Tryz.ntmps72
 go_wp2_with fail
 refine (HV1.out w rfB).mono ?_
 rintro e W2 ⟨b,rfl,hb1,hb2⟩
 obtain rfl:b = true:=hb1.2 V1.out
 clear hb1
 go_wp2_with fail
 refine (HV2.out W2 hb2).mono ?_
 rintro e W3 ⟨b,rfl,hb3,hb4⟩
 obtain rfl:b = true:=hb3.2 V2.out
 clear hb3
 have B3:=bT hb2 hb4
 go_wp2_with fail
 refine (HC1.out W3 B3).mono ?_
 rintro e W4 ⟨rfl,rfl⟩
 go_wp2_with fail
 refine (HC2.out W3 B3).mono ?_
 rintro e W4 ⟨rfl,rfl⟩
 go_wp2_with fail
 refine (HZ.out W3).mono ?_
 rintro e W4 ⟨g3,rfl,hM,hS,hb5⟩
 have hlo:w.heap.size <= W3.heap.size:=B3.size
 have KB0:=hid (bT B3 hb5)
 have HM0:=hid (hM.congr (F':=upto Q 0 0) fun a b _ _=>(if_neg oM:upto Q 0 0 a b = .zero).symm)
 have HSep:=hid hS
 clear hb2 hb4 hb5 B3 hM hS
 obtain ⟨go3,hgo3⟩:∃ g,W3.heap.size = g:=⟨_,rfl⟩
 rw [hgo3] at HM0 HSep hlo
 simp only [hgo3]
 clear hgo3
 go_wp2_with fail
 go_loopw [7] (fun iv wr=>∃ i:Nat,iv = .int .i64 (i:Int) /\ i <= n /\ Below w.heap.size w wr /\ MatQ wr go3 g3 n q (upto Q i 0)) (fun iv _=>n - (intOf iv).toNat)
 case atStart=>exact ⟨0,rfl,oM,KB0.out,HM0.out⟩
 case round =>
  clear KB0 HM0
  obtain ⟨i,rfl,hin,hB,hM⟩:=hrel
  have KB:=hid hB
  have HM:=hid hM
  clear hB hM
  by_cases hi:i < n
  ·go_wp2_with fail
   go_loopw [8] (fun kv wx=>∃ k:Nat,kv = .int .i64 (k:Int) /\ k <= q /\ Below w.heap.size w wx /\ MatQ wx go3 g3 n q (upto Q i k)) (fun kv _=>q - (intOf kv).toNat)
   case atStart=>exact ⟨0,rfl,oM,KB.out,HM.out⟩
   case round =>
    clear KB HM
    obtain ⟨k,rfl,hkq,hB,hM⟩:=hrel
    have KB:=hid hB
    have HM:=hid hM
    clear hB hM
    go_wp2_with fail
    refine (HC2.out _ KB.out).mono ?_
    rintro e W5 ⟨rfl,rfl⟩
    by_cases hk:k < q
    ·obtain ⟨S,hS⟩:∃ S:Nat -> Cx,S = fun t=>sm (fun j=>(F i j).mul (G j k)) 0 t:=⟨_,rfl⟩
     have HSd:=hid hS
     have HM1:=hid (show MatQ wr go3 g3 n q (uptoS Q S i k 0) by rw [uptoS_zero _ _ _ _ (by rw [hS]; rfl)]; exact HM.out)
     have hd:decide ((k:Int) < (q:Int)) = true:=sO
     clear hS HM
     go_wp2_with fail
     go_loopw [9] (fun tv wx=>∃ t:Nat,tv = .int .i64 (t:Int) /\ t <= p /\ Below w.heap.size w wx /\ MatQ wx go3 g3 n q (uptoS Q S i k t)) (fun tv _=>p - (intOf tv).toNat)
     case atStart=>exact ⟨0,rfl,oM,KB.out,HM1.out⟩
     case round =>
      clear KB HM1
      obtain ⟨t,rfl,htp,hB,hM⟩:=hrel
      have KB:=hid hB
      have HM:=hid hM
      clear hB hM
      by_cases ht:t < p
      ·have hi0:(0:Int) <= (i:Int):=oM
       have hi1:(i:Int) < (n:Int):=oM
       have hk0:(0:Int) <= (k:Int):=oM
       have hk1:(k:Int) < (q:Int):=oM
       have ht0:(0:Int) <= (t:Int):=oM
       have ht1:(t:Int) < (p:Int):=oM
       have hsz:=szsum (f:=fun j=>(F i j).mul (G j k)) (s:=s + s1 + 1) p (fun j hj=>(HSF.out i j hi hj).mul (HSG.out j k hj hk)) t htp
       have HSS:=hid (show Sz (uptoS Q S i k t i k) (t * (s + s1 + 1 + 1) + 1) by rw [uptoS_self,HSd.out]; exact hsz)
       have hss2:t * (s + s1 + 1 + 1) + 1 + (s + s1 + 1) + 1 < 549755813888:=by
        have:t * (s + s1 + 1 + 1) <= 32 * (s + s1 + 1 + 1):=Nat.mul_le_mul_right _ oM
        omega
       clear hsz
       go_upto_region 13 with fail
       refine region_last [.val (kIs (.slice (some ⟨go3,0,none⟩) n n)),.val (kIs (.int .i64 (i:Int))),.val (kIs (.pointer (some ⟨go3,i,none⟩))),.val (kIs (.slice (some ⟨g3 i,0,none⟩) q q)),.val (kIs (.int .i64 (k:Int))),.val (kIs (.slice (some ⟨go3,0,none⟩) n n)),.val (kIs (.int .i64 (i:Int))),.val (kIs (.pointer (some ⟨go3,i,none⟩))),.val (kIs (.slice (some ⟨g3 i,0,none⟩) q q)),.val (kIs (.int .i64 (k:Int))),.val (kIs (.pointer (some ⟨g3 i,5 * k,none⟩))),.val (kQ (uptoS Q S i k t i k)),.val (kIs (.slice (some ⟨ga,0,none⟩) n ca)),.val (kIs (.int .i64 (i:Int))),.val (kIs (.pointer (some ⟨ga,i,none⟩))),.val (kIs (.slice (some ⟨gi i,0,none⟩) p p)),.val (kIs (.int .i64 (t:Int))),.val (kIs (.pointer (some ⟨gi i,5 * t,none⟩))),.val (kQ (F i t)),.val (kIs (.slice (some ⟨gb,0,none⟩) p cb)),.val (kIs (.int .i64 (t:Int))),.val (kIs (.pointer (some ⟨gb,t,none⟩))),.val (kIs (.slice (some ⟨gj t,0,none⟩) q q)),.val (kIs (.int .i64 (k:Int))),.val (kIs (.pointer (some ⟨gj t,5 * k,none⟩))),.val (kQ (G t k)),.val (kQ ((F i t).mul (G t k))),.val (kQ ((uptoS Q S i k t i k).add ((F i t).mul (G t k)))),.val (kIs (.pointer (some ⟨g3 i,5 * k,none⟩)))]
        kR kR kR kR kR ⟨Stab.b (stab_is _),Stab.b (stab_is _),Stab.b (stab_is _),Stab.b (stab_is _),Stab.b (stab_is _),Stab.b (stab_is _),Stab.b (stab_is _),Stab.b (stab_is _),Stab.b (stab_is _),Stab.b (stab_is _),Stab.b (stab_is _),stabB_q _,Stab.b (stab_is _),Stab.b (stab_is _),Stab.b (stab_is _),Stab.b (stab_is _),Stab.b (stab_is _),Stab.b (stab_is _),stabB_q _,Stab.b (stab_is _),Stab.b (stab_is _),Stab.b (stab_is _),Stab.b (stab_is _),Stab.b (stab_is _),Stab.b (stab_is _),stabB_q _,stabB_q _,stabB_q _,Stab.b (stab_is _),trivial⟩ sP (ol:=_) rfl kR ⟨?_,?_,?_,?_,?_,?_,?_,?_,?_,?_,?_,?_,?_,?_,?_,?_,?_,?_,?_,?_,?_,?_,?_,?_,?_,?_,?_,?_,?_,trivial⟩ ?_
       ·exact obp
       ·exact obp
       ·intro ts W hb hB hp; have h0:ts 0 = _:=hp 0 kR; have h1:ts 1 = _:=hp 1 kR; intro K hK; simp only [fillT,zA,Nat.reduceAdd,sA,sB,sC,h0,h1] at hK ⊢; have HK:=hid hK; clear hK hp; refine ⟨?_⟩; go_simp; exact HK.out _ _ rfl rfB
       ·intro ts W hb hB hp; have h2:ts 2 = _:=hp 2 kR; intro K hK; simp only [fillT,zA,Nat.reduceAdd,sA,sB,sC,h2] at hK ⊢; have HK:=hid hK; clear hK hp; have hcell:=(HM.out.below hb).cell hi; refine ⟨?_⟩; go_simp; exact HK.out _ _ rfl rfB
       ·exact obp
       ·exact obp
       ·exact obp
       ·intro ts W hb hB hp; have h5:ts 5 = _:=hp 5 kR; have h6:ts 6 = _:=hp 6 kR; intro K hK; simp only [fillT,zA,Nat.reduceAdd,sA,sB,sC,h5,h6] at hK ⊢; have HK:=hid hK; clear hK hp; refine ⟨?_⟩; go_simp; exact HK.out _ _ rfl rfB
       ·intro ts W hb hB hp; have h7:ts 7 = _:=hp 7 kR; intro K hK; simp only [fillT,zA,Nat.reduceAdd,sA,sB,sC,h7] at hK ⊢; have HK:=hid hK; clear hK hp; have hcell:=(HM.out.below hb).cell hi; refine ⟨?_⟩; go_simp; exact HK.out _ _ rfl rfB
       ·exact obp
       ·intro ts W hb hB hp; have h8:ts 8 = _:=hp 8 kR; have h9:ts 9 = _:=hp 9 kR; intro K hK; simp only [fillT,zA,Nat.reduceAdd,sA,sB,sC,h8,h9] at hK ⊢; have HK:=hid hK; clear hK hp; refine ⟨?_⟩; go_simp; exact HK.out _ _ (by simp [kIs,Nat.mul_comm]) rfB
       ·intro ts W hb hB hp; have h10:ts 10 = _:=hp 10 kR; intro K hK; simp only [fillT,zA,Nat.reduceAdd,sA,sB,sC,h10] at hK ⊢; have HK:=hid hK; clear hK hp; refine ⟨?_⟩; refine wp_load_qe rfl rfl ((HM.out.below hb).row hi) hk trivial (fun v hv=>HK.out _ _ hv rfB)
       ·exact obp
       ·exact obp
       ·intro ts W hb hB hp; have h12:ts 12 = _:=hp 12 kR; have h13:ts 13 = _:=hp 13 kR; intro K hK; simp only [fillT,zA,Nat.reduceAdd,sA,sB,sC,h12,h13] at hK ⊢; have HK:=hid hK; clear hK hp; refine ⟨?_⟩; go_simp; exact HK.out _ _ rfl rfB
       ·intro ts W hb hB hp; have h14:ts 14 = _:=hp 14 kR; intro K hK; simp only [fillT,zA,Nat.reduceAdd,sA,sB,sC,h14] at hK ⊢; have HK:=hid hK; clear hK hp; have hcell:=((HA.out.below KB.out).below hb).cell hi; refine ⟨?_⟩; go_simp; exact HK.out _ _ rfl rfB
       ·exact obp
       ·intro ts W hb hB hp; have h15:ts 15 = _:=hp 15 kR; have h16:ts 16 = _:=hp 16 kR; intro K hK; simp only [fillT,zA,Nat.reduceAdd,sA,sB,sC,h15,h16] at hK ⊢; have HK:=hid hK; clear hK hp; refine ⟨?_⟩; go_simp; exact HK.out _ _ (by simp [kIs,Nat.mul_comm]) rfB
       ·intro ts W hb hB hp; have h17:ts 17 = _:=hp 17 kR; intro K hK; simp only [fillT,zA,Nat.reduceAdd,sA,sB,sC,h17] at hK ⊢; have HK:=hid hK; clear hK hp; refine ⟨?_⟩; refine wp_load_qe rfl rfl (((HA.out.below KB.out).below hb).row hi) ht trivial (fun v hv=>HK.out _ _ hv rfB)
       ·exact obp
       ·exact obp
       ·intro ts W hb hB hp; have h19:ts 19 = _:=hp 19 kR; have h20:ts 20 = _:=hp 20 kR; intro K hK; simp only [fillT,zA,Nat.reduceAdd,sA,sB,sC,h19,h20] at hK ⊢; have HK:=hid hK; clear hK hp; refine ⟨?_⟩; go_simp; exact HK.out _ _ rfl rfB
       ·intro ts W hb hB hp; have h21:ts 21 = _:=hp 21 kR; intro K hK; simp only [fillT,zA,Nat.reduceAdd,sA,sB,sC,h21] at hK ⊢; have HK:=hid hK; clear hK hp; have hcell:=((HB.out.below KB.out).below hb).cell ht; refine ⟨?_⟩; go_simp; exact HK.out _ _ rfl rfB
       ·exact obp
       ·intro ts W hb hB hp; have h22:ts 22 = _:=hp 22 kR; have h23:ts 23 = _:=hp 23 kR; intro K hK; simp only [fillT,zA,Nat.reduceAdd,sA,sB,sC,h22,h23] at hK ⊢; have HK:=hid hK; clear hK hp; refine ⟨?_⟩; go_simp; exact HK.out _ _ (by simp [kIs,Nat.mul_comm]) rfB
       ·intro ts W hb hB hp; have h24:ts 24 = _:=hp 24 kR; intro K hK; simp only [fillT,zA,Nat.reduceAdd,sA,sB,sC,h24] at hK ⊢; have HK:=hid hK; clear hK hp; refine ⟨?_⟩; refine wp_load_qe rfl rfl (((HB.out.below KB.out).below hb).row ht) hk trivial (fun v hv=>HK.out _ _ hv rfB)
       ·intro ts W hb hB hp; have h18:=hp 18 kR; have h25:=hp 25 kR; intro K hK; simp only [fillT,zA,Nat.reduceAdd,sA,sB,sC] at hK ⊢; have HK:=hid hK; clear hK hp; refine ⟨?_⟩; go_simp; refine (rMul_any _ _ _ _ W h18 h25 s s1 (HSF.out i t hi ht) (HSG.out t k ht hk) hss1).mono ?_; rintro e W9 ⟨r9,rfl,hr9,hb9⟩; exact HK.out _ _ hr9 hb9
       ·intro ts W hb hB hp; have h11:=hp 11 kR; have h26:=hp 26 kR; intro K hK; simp only [fillT,zA,Nat.reduceAdd,sA,sB,sC] at hK ⊢; have HK:=hid hK; clear hK hp; refine ⟨?_⟩; go_simp; refine (rAdd_any _ _ _ _ W h11 h26 _ _ HSS.out (Sz.mul (HSF.out i t hi ht) (HSG.out t k ht hk)) hss2).mono ?_; rintro e W9 ⟨r9,rfl,hr9,hb9⟩; exact HK.out _ _ hr9 hb9
       ·intro ts W hb hB hp; have h3:ts 3 = _:=hp 3 kR; have h4:ts 4 = _:=hp 4 kR; intro K hK; simp only [fillT,zA,Nat.reduceAdd,sA,sB,sC,h3,h4] at hK ⊢; have HK:=hid hK; clear hK hp; refine ⟨?_⟩; go_simp; exact HK.out _ _ (by simp [kIs,Nat.mul_comm]) rfB
       intro ts W3 hb3 hh hap K hK
       have h9:=held_q (hh 27 sP) rfl
       have e9:=held_is (hh 28 sP) rfl
       have HK:=hid hK
       clear hK hh hap
       simp only [fillT,zA,Nat.reduceAdd,sA,sB,sC,e9]
       refine ⟨?_⟩
       refine wp_store_qe rfl (k:=k) rfl rfl ((HM.out.below hb3).row hi) hk h9 (fun W4 hbut hext hrow=>HK.out _ _ ?_)
       clear e9 h9
       have M3:=(HM.out.below hb3).set HSep.out hi hbut hext (hrow.to (V':=fun _=>True) (f':=upf (uptoS Q S i k t i) k ((uptoS Q S i k t i k).add ((F i t).mul (G t k)))) fun _ _ _=>⟨.inl trivial,rfl⟩)
       rw [uptoS_next,uptoS_self,show (S t).add ((F i t).mul (G t k)) = S (t + 1) by rw [HSd.out]; show (sm (fun j=>(F i j).mul (G j k)) 0 t).add ((F i t).mul (G t k)) = sm (fun j=>(F i j).mul (G j k)) 0 (t + 1); rw [sm_last,Nat.zero_add]] at M3
       have M4:=hid (show MatQ W4 go3 g3 n q (uptoS Q S i k (t + 1)) from M3)
       have B4:=hid (hbut.below (bT KB.out hb3) (Nat.le_trans hlo (HSep.out.los i hi)))
       clear hbut hext hrow hb3 M3 HM KB
       go_wp2
       go_roundw
       case rel=>exact ⟨t + 1,by go_num,oM,B4.out,M4.out⟩
       case measure=>exact mS
      ·obtain rfl:t = p:=oM
       have HM2:=hid (show MatQ wr go3 g3 n q (upto Q i (k + 1)) by
        have:=HM.out
        rw [uptoS_done _ _ _ _ _ (by rw [HSd.out,HQ.out]; rfl)] at this
        exact this)
       clear HM
       go_wp2
       go_roundw
       case rel=>exact ⟨k + 1,by go_num,oM,KB.out,HM2.out⟩
       case measure=>exact mS
    ·obtain rfl:k = q:=oM
     have HM3:=hid (HM.out.congr (F':=upto Q (i + 1) 0) fun a b _ hb=>upto_shut _ i k a b hb)
     have hd:decide ((k:Int) < (k:Int)) = false:=sP
     go_wp2
     go_roundw
     case rel=>exact ⟨i + 1,by go_num,oM,KB.out,HM3.out⟩
     case measure=>exact mS
  ·obtain rfl:i = n:=oM
   have HM3:=hid (HM.out.congr (F':=Q) fun a b ha _=>by unfold upto; rw [if_pos (.inl ha)])
   go_wp2
   go_ret2
   exact ⟨_,_,rfl,HM3.out,KB.out⟩
def uptoA (Q:Nat -> Nat -> Cx) (i k:Nat):Nat -> Nat -> Cx:=fun a b=>if b < i ∨ b = i /\ a < k then Q a b else .zero
theorem uptoA_next (Q:Nat -> Nat -> Cx) (i k:Nat):upm (uptoA Q i k) k i (Q k i) = uptoA Q i (k + 1):=by
 funext a b
 unfold upm upf uptoA
 by_cases h:a = k
 ·subst h
  simp only [if_true]
  by_cases h2:b = i
  ·subst h2; simp
  ·simp only [if_neg h2]
   by_cases h3:b < i
   ·rw [if_pos (.inl h3),if_pos (.inl h3)]
   ·rw [if_neg oM,if_neg oM]
 ·simp only [if_neg h]
  by_cases h2:b < i ∨ b = i /\ a < k
  ·rw [if_pos h2,if_pos oM]
  ·rw [if_neg h2,if_neg oM]
theorem rAdjoint_ok (w:World) (ga:Nat) (gi:Nat -> Nat) (n m ca:Nat) (F:Nat -> Nat -> Cx) (hA:MatQ w ga gi n m F) (hn:0 < n) (hn1:n <= 32) (hm1:m <= 32) :
  Calls Tryz.prog 71 #[.slice (some ⟨ga,0,none⟩) n ca] w fun e w'=>∃ go gk,e = .returned (.tuple #[.slice (some ⟨go,0,none⟩) m m,.int .i64 0]) /\ MatQ w' go gk m n (adjM F) /\ Below w.heap.size w w':=by
 have HV1:=hid (fun W (hb:Below w.heap.size w W)=>rValid_any W _ n _ F ((hA.below hb).qss ca) oM (fun _ _=>oM))
 have HC1:=hid (fun W (hb:Below w.heap.size w W)=>rColumns_any W _ n _ F ((hA.below hb).qss ca))
 rw [if_neg oM] at HC1
 have HZ:=hid (fun W=>rZeros_any W m n oM oM)
 have v1:Vld n (fun _=>m):=⟨hn1,fun _ _=>⟨rfl,hm1⟩⟩
 have V1:=hid v1
 have HA:=hid hA
 obtain ⟨Q,hQ⟩:∃ Q,Q = adjM F:=⟨_,rfl⟩
 rw [<- hQ]
 have HQ:=hid hQ
 clear hA v1 hQ
 go_enter Tryz.func71,Tryz.ntmps71
 go_wp2_with fail
 refine (HV1.out w rfB).mono ?_
 rintro e W2 ⟨b,rfl,hb1,hb2⟩
 obtain rfl:b = true:=hb1.2 V1.out
 clear hb1
 go_wp2_with fail
 refine (HC1.out W2 hb2).mono ?_
 rintro e W4 ⟨rfl,rfl⟩
 go_wp2_with fail
 refine (HZ.out W2).mono ?_
 rintro e W4 ⟨g3,rfl,hM,hS,hb5⟩
 have hlo:w.heap.size <= W2.heap.size:=hb2.size
 have KB0:=hid (bT hb2 hb5)
 have HM0:=hid (hM.congr (F':=uptoA Q 0 0) fun a b _ _=>(if_neg oM:uptoA Q 0 0 a b = .zero).symm)
 have HSep:=hid hS
 clear hb2 hb5 hM hS
 obtain ⟨go3,hgo3⟩:∃ g,W2.heap.size = g:=⟨_,rfl⟩
 rw [hgo3] at HM0 HSep hlo
 simp only [hgo3]
 clear hgo3
 go_wp2_with fail
 go_loopw [5] (fun iv wr=>∃ i:Nat,iv = .int .i64 (i:Int) /\ i <= n /\ Below w.heap.size w wr /\ MatQ wr go3 g3 m n (uptoA Q i 0)) (fun iv _=>n - (intOf iv).toNat)
 case atStart=>exact ⟨0,rfl,oM,KB0.out,HM0.out⟩
 case round =>
  clear KB0 HM0
  obtain ⟨i,rfl,hin,hB,hM⟩:=hrel
  have KB:=hid hB
  have HM:=hid hM
  clear hB hM
  by_cases hi:i < n
  ·have hi0:(0:Int) <= (i:Int):=oM
   have hi1:(i:Int) < (n:Int):=oM
   go_wp2_with fail
   go_loopw [6] (fun kv wx=>∃ k:Nat,kv = .int .i64 (k:Int) /\ k <= m /\ Below w.heap.size w wx /\ MatQ wx go3 g3 m n (uptoA Q i k)) (fun kv _=>m - (intOf kv).toNat)
   case atStart=>exact ⟨0,rfl,oM,KB.out,HM.out⟩
   case round =>
    clear KB HM
    obtain ⟨k,rfl,hkm,hB,hM⟩:=hrel
    have KB:=hid hB
    have HM:=hid hM
    clear hB hM
    have hcellA:=(HA.out.below KB.out).cell hi
    by_cases hk:k < m
    ·have hk0:(0:Int) <= (k:Int):=oM
     have hk1:(k:Int) < (m:Int):=oM
     go_upto_region 10 with fail
     clear hcellA
     refine region_last [.val (kIs (.slice (some ⟨go3,0,none⟩) m m)),.val (kIs (.int .i64 (k:Int))),.val (kIs (.pointer (some ⟨go3,k,none⟩))),.val (kIs (.slice (some ⟨g3 k,0,none⟩) n n)),.val (kIs (.int .i64 (i:Int))),.val (kIs (.slice (some ⟨ga,0,none⟩) n ca)),.val (kIs (.int .i64 (i:Int))),.val (kIs (.pointer (some ⟨ga,i,none⟩))),.val (kIs (.slice (some ⟨gi i,0,none⟩) m m)),.val (kIs (.int .i64 (k:Int))),.val (kIs (.pointer (some ⟨gi i,5 * k,none⟩))),.val (kQ (F i k)),.val (kQ ((F i k).conj)),.val (kIs (.pointer (some ⟨g3 k,5 * i,none⟩)))]
      kR kR kR kR kR ⟨Stab.b (stab_is _),Stab.b (stab_is _),Stab.b (stab_is _),Stab.b (stab_is _),Stab.b (stab_is _),Stab.b (stab_is _),Stab.b (stab_is _),Stab.b (stab_is _),Stab.b (stab_is _),Stab.b (stab_is _),Stab.b (stab_is _),stabB_q _,stabB_q _,Stab.b (stab_is _),trivial⟩ sP (ol:=_) rfl kR ⟨?_,?_,?_,?_,?_,?_,?_,?_,?_,?_,?_,?_,?_,?_,trivial⟩ ?_
     ·exact obp
     ·exact obp
     ·intro ts W hb hB hp; have h0:ts 0 = _:=hp 0 kR; have h1:ts 1 = _:=hp 1 kR; intro K hK; simp only [fillT,zA,Nat.reduceAdd,sA,sB,sC,h0,h1] at hK ⊢; have HK:=hid hK; clear hK hp; refine ⟨?_⟩; go_simp; exact HK.out _ _ rfl rfB
     ·intro ts W hb hB hp; have h2:ts 2 = _:=hp 2 kR; intro K hK; simp only [fillT,zA,Nat.reduceAdd,sA,sB,sC,h2] at hK ⊢; have HK:=hid hK; clear hK hp; have hcell:=(HM.out.below hb).cell hk; refine ⟨?_⟩; go_simp; exact HK.out _ _ rfl rfB
     ·exact obp
     ·exact obp
     ·exact obp
     ·intro ts W hb hB hp; have h5:ts 5 = _:=hp 5 kR; have h6:ts 6 = _:=hp 6 kR; intro K hK; simp only [fillT,zA,Nat.reduceAdd,sA,sB,sC,h5,h6] at hK ⊢; have HK:=hid hK; clear hK hp; refine ⟨?_⟩; go_simp; exact HK.out _ _ rfl rfB
     ·intro ts W hb hB hp; have h7:ts 7 = _:=hp 7 kR; intro K hK; simp only [fillT,zA,Nat.reduceAdd,sA,sB,sC,h7] at hK ⊢; have HK:=hid hK; clear hK hp; have hcell:=((HA.out.below KB.out).below hb).cell hi; refine ⟨?_⟩; go_simp; exact HK.out _ _ rfl rfB
     ·exact obp
     ·intro ts W hb hB hp; have h8:ts 8 = _:=hp 8 kR; have h9:ts 9 = _:=hp 9 kR; intro K hK; simp only [fillT,zA,Nat.reduceAdd,sA,sB,sC,h8,h9] at hK ⊢; have HK:=hid hK; clear hK hp; refine ⟨?_⟩; go_simp; exact HK.out _ _ (by simp [kIs,Nat.mul_comm]) rfB
     ·intro ts W hb hB hp; have h10:ts 10 = _:=hp 10 kR; intro K hK; simp only [fillT,zA,Nat.reduceAdd,sA,sB,sC,h10] at hK ⊢; have HK:=hid hK; clear hK hp; refine ⟨?_⟩; refine wp_load_qe rfl rfl (((HA.out.below KB.out).below hb).row hi) hk trivial (fun v hv=>HK.out _ _ hv rfB)
     ·intro ts W hb hB hp; have h11:=hp 11 kR; intro K hK; simp only [fillT,zA,Nat.reduceAdd,sA,sB,sC] at hK ⊢; have HK:=hid hK; clear hK hp; refine ⟨?_⟩; go_simp; refine (rConj_any _ _ W h11).mono ?_; rintro e W9 ⟨r9,rfl,hr9,hb9⟩; exact HK.out _ _ hr9 hb9
     ·intro ts W hb hB hp; have h3:ts 3 = _:=hp 3 kR; have h4:ts 4 = _:=hp 4 kR; intro K hK; simp only [fillT,zA,Nat.reduceAdd,sA,sB,sC,h3,h4] at hK ⊢; have HK:=hid hK; clear hK hp; refine ⟨?_⟩; go_simp; exact HK.out _ _ (by simp [kIs,Nat.mul_comm]) rfB
     intro ts W3 hb3 hh hap K hK
     have h9:=held_q (hh 12 sP) rfl
     have e9:=held_is (hh 13 sP) rfl
     have HK:=hid hK
     clear hK hh hap
     simp only [fillT,zA,Nat.reduceAdd,sA,sB,sC,e9]
     refine ⟨?_⟩
     refine wp_store_qe rfl (k:=i) rfl rfl ((HM.out.below hb3).row hk) hi h9 (fun W4 hbut hext hrow=>HK.out _ _ ?_)
     clear e9 h9
     have M3:=(HM.out.below hb3).set HSep.out hk hbut hext (hrow.to (V':=fun _=>True) (f':=upf (uptoA Q i k k) i ((F i k).conj)) fun _ _ _=>⟨.inl trivial,rfl⟩)
     rw [show (F i k).conj = Q k i by rw [HQ.out]; rfl,uptoA_next] at M3
     have M4:=hid M3
     have B4:=hid (hbut.below (bT KB.out hb3) (Nat.le_trans hlo (HSep.out.los k hk)))
     clear hbut hext hrow hb3 M3 HM KB
     go_wp2
     go_roundw
     case rel=>exact ⟨k + 1,by go_num,oM,B4.out,M4.out⟩
     case measure=>exact mS
    ·obtain rfl:k = m:=oM
     have HM3:=hid (HM.out.congr (F':=uptoA Q (i + 1) 0) fun a b ha _=>by
      unfold uptoA
      by_cases h:b < i ∨ b = i /\ a < k
      ·rw [if_pos h,if_pos oM]
      ·rw [if_neg h,if_neg oM])
     go_wp2
     go_roundw
     case rel=>exact ⟨i + 1,by go_num,oM,KB.out,HM3.out⟩
     case measure=>exact mS
  ·obtain rfl:i = n:=oM
   have HM3:=hid (HM.out.congr (F':=Q) fun a b _ hb=>by unfold uptoA; rw [if_pos (.inl hb)])
   go_wp2
   go_ret2
   exact ⟨_,_,rfl,HM3.out,KB.out⟩
end Go.Proofs.YtffegeaflohfhaaGreatDoor
