import Derived.Test.YtffegeaflohfhaaGreatDoorS29
import Derived.Test.YtffegeaflohfhaaGreatDoorS40
import Derived.Test.YtffegeaflohfhaaGreatDoorS02
set_option linter.unusedVariables false
set_option linter.unusedSimpArgs false
set_option maxRecDepth 100000
set_option maxHeartbeats 8000000
namespace Go.Proofs.YtffegeaflohfhaaGreatDoor
open Go.RowKit
structure PMV (B:Nat) (W:World) (go:Nat) (gi:Nat -> Nat) (n m k:Nat) (V:Nat -> Nat -> Prop) (F:Nat -> Nat -> Cx):Prop where
 sep:MatSep B go gi k
 kn:k <= n
 cells:∃ cs:Array Value,W.heap[go]? = some (.cells cs 50 (0,0)) /\ cs.size = n /\ (∀ i,i < k -> cs[i]? = some (.slice (some ⟨gi i,0,none⟩) m m)) /\ (∀ i,k <= i -> i < n -> cs[i]? = some (.slice none 0 0))
 rows:∀ i,i < k -> QBlk W (gi i) m (V i) (F i)
section
variable {B:Nat} {W W':World} {go:Nat} {gi:Nat -> Nat} {n m k:Nat} {V V':Nat -> Nat -> Prop} {F F':Nat -> Nat -> Cx}
theorem PMV.lt (h:PMV B W go gi n m k V F):go < W.heap.size:=by
 obtain ⟨cs,h,-⟩:=h.cells
 exact heap_ge_none h
theorem PMV.below (h:PMV B W go gi n m k V F) (hb:Below W.heap.size W W'):PMV B W' go gi n m k V F:=by
 have hlt:=h.lt
 obtain ⟨cs,h1,h2,h3,h4⟩:=h.cells
 exact ⟨h.sep,h.kn,⟨cs,(hb.block _ hlt).trans h1,h2,h3,h4⟩,fun i hi=>(h.rows i hi).below hb⟩
theorem PMV.cell (h:PMV B W go gi n m k V F) {i:Nat} (hi:i < k):W.cell? ⟨go,i,none⟩ = some (.slice (some ⟨gi i,0,none⟩) m m):=by
 obtain ⟨cs,h1,h2,h3,-⟩:=h.cells
 rw [cell_of_row W go i cs _ (0,0) h1]
 exact h3 i hi
theorem PMV.cell_nil (h:PMV B W go gi n m k V F) {i:Nat} (hk:k <= i) (hi:i < n):W.cell? ⟨go,i,none⟩ = some (.slice none 0 0):=by
 obtain ⟨cs,h1,h2,-,h4⟩:=h.cells
 rw [cell_of_row W go i cs _ (0,0) h1]
 exact h4 i hk hi
theorem PMV.frozen (h:PMV B W go gi n m k V F) (i:Nat):W.frozen? ⟨go,i,none⟩ = false:=by
 obtain ⟨cs,h1,-⟩:=h.cells
 simp [World.frozen?,h1]
theorem PMV.done (h:PMV B W go gi n m n V F) (hV:∀ i j,i < n -> j < m -> V i j):MatQ W go gi n m F /\ MatSep B go gi n:=by
 obtain ⟨cs,h1,h2,h3,-⟩:=h.cells
 exact ⟨⟨cs,h1,h2,h3,fun i hi=>(h.rows i hi).to fun j hj _=>⟨hV i j hi hj,rfl⟩⟩,h.sep⟩
theorem PMV.to (h:PMV B W go gi n m k V F) (hV:∀ i j,i < k -> j < m -> V' i j -> V i j /\ F i j = F' i j):PMV B W go gi n m k V' F' :=
 ⟨h.sep,h.kn,h.cells,fun i hi=>(h.rows i hi).to fun j hj hv=>hV i j hi hj hv⟩
theorem PMV.row (h:PMV B W go gi n m k V F) (hb:Below W.heap.size W W') {g:Nat} (hg:W.heap.size <= g) (hr:QBlk W' g m (V k) (F k)) (hk:k < n) :
  PMV B (W'.setCell ⟨go,k,none⟩ (.slice (some ⟨g,0,none⟩) m m)) go (upf gi k g) n m (k + 1) V F /\ But W' (W'.setCell ⟨go,k,none⟩ (.slice (some ⟨g,0,none⟩) m m)) go /\ Ext W' (W'.setCell ⟨go,k,none⟩ (.slice (some ⟨g,0,none⟩) m m)):=by
 have hgo:=h.lt
 have h':=h.below hb
 obtain ⟨cs,h1,h2,h3,h4⟩:=h'.cells
 have hbut:But W' (W'.setCell ⟨go,k,none⟩ (.slice (some ⟨g,0,none⟩) m m)) go:=by
  rw [setCell_eq_setRow W' go k cs _ (0,0) _ h1]
  exact But.setRow _ _ _
 have hodd:oddB cs = true:=by
  unfold oddB
  rw [List.all_eq_true]
  intro v hv
  obtain ⟨i,hi,rfl⟩:=List.getElem_of_mem hv
  have hi':i < n:=by simpa [h2] using hi
  have hget:∀ u,cs[i]? = some u -> cs.toList[i] = u:=fun u hu=>by
   obtain ⟨hlt,hu⟩:=Array.getElem?_eq_some_iff.1 hu
   simpa using hu
  rcases Nat.lt_or_ge i k with hik | hik
  ·rw [hget _ (h3 i hik)]
  ·rw [hget _ (h4 i hik hi')]
 have hext:=hbut.ext h1 hodd
 have hgi:∀ i,i < k -> gi i < W.heap.size:=fun i hi=>(h.rows i hi).lt
 refine ⟨?_,hbut,hext⟩
 refine ⟨⟨h.sep.lo,fun i hi=>?_,fun i hi=>?_,fun i j hi hj e=>?_⟩,oM,⟨cs.setIfInBounds k (.slice (some ⟨g,0,none⟩) m m),?_,by simp [h2],fun i hi=>?_,fun i hi hin=>?_⟩,fun i hi=>?_⟩
 ·by_cases hik:i = k
  ·rw [hik,upf_same]; have:=h.sep.lo; omega
  ·rw [upf_other _ _ hik]; exact h.sep.los i oM
 ·by_cases hik:i = k
  ·rw [hik,upf_same]; omega
  ·rw [upf_other _ _ hik]; exact h.sep.ne i oM
 ·by_cases hik:i = k
  ·by_cases hjk:j = k
   ·omega
   ·rw [hik,upf_same,upf_other _ _ hjk] at e
    have:=hgi j oM
    omega
  ·by_cases hjk:j = k
   ·rw [hjk,upf_same,upf_other _ _ hik] at e
    have:=hgi i oM
    omega
   ·rw [upf_other _ _ hik,upf_other _ _ hjk] at e
    exact h.sep.inj i j oM oM e
 ·rw [setCell_eq_setRow W' go k cs _ (0,0) _ h1]
  exact setRow_heap W' go cs _ _ _ h1
 ·rw [Array.getElem?_setIfInBounds]
  by_cases hik:k = i
  ·subst hik
   rw [if_pos rfl,if_pos oM,upf_same]
  ·rw [if_neg hik,upf_other _ _ (fun e=>hik e.symm)]
   exact h3 i oM
 ·rw [Array.getElem?_setIfInBounds,if_neg oM]
  exact h4 i oM hin
 ·by_cases hik:i = k
  ·rw [hik,upf_same]
   exact hr.but hbut hext oM
  ·rw [upf_other _ _ hik]
   exact (h'.rows i oM).but hbut hext (h.sep.ne i oM)
theorem PMV.set (h:PMV B W go gi n m k V F) {i:Nat} (hi:i < k) {f:Nat -> Cx} {U:Nat -> Prop} (hb:But W W' (gi i)) (he:Ext W W') (hr:QBlk W' (gi i) m U f):PMV B W' go gi n m k (upf V i U) (upf F i f):=by
 obtain ⟨cs,h1,h2,h3,h4⟩:=h.cells
 refine ⟨h.sep,h.kn,⟨cs,(hb.other _ (Ne.symm (h.sep.ne i hi))).trans h1,h2,h3,h4⟩,fun j hj=>?_⟩
 by_cases hji:j = i
 ·subst hji
  rw [upf_same,upf_same]
  exact hr
 ·rw [upf_other _ _ hji,upf_other _ _ hji]
  exact (h.rows j hj).ext he (hb.other _ fun e=>hji (h.sep.inj j i hj hi e))
end
theorem make_pmv (n m:Nat) (hn:n <= 1099511627776) (w:World) (V:Nat -> Nat -> Prop) (F:Nat -> Nat -> Cx) (gi:Nat -> Nat):∃ w',(Instr.makeSlice 28 (.int .i64 (n:Int)) (.int .i64 (n:Int))).run Tryz.prog w = .ok (.slice (some ⟨w.heap.size,0,none⟩) n n) w' /\
  Below w.heap.size w w' /\ w'.heap.size = w.heap.size + 1 /\ PMV w.heap.size w' w.heap.size gi n m 0 V F:=by
 obtain ⟨w',h1,h2,h3,h4⟩:=make_matq n m hn w F gi
 exact ⟨w',h1,h2,h3,⟨h4.sep,h4.kn,h4.cells,fun i hi=>absurd hi oM⟩⟩
theorem Cx.int_zero':Cx.int 0 = .zero:=by apply Cx.ext <;> simp [Cx.int,Cx.zero]
theorem rZeros_any (w:World) (n m:Nat) (hn:n <= 1099511627776) (hm:m <= 1099511627776) :
  Calls Tryz.prog 62 #[.int .i64 (n:Int),.int .i64 (m:Int)] w fun e w'=>∃ gi,e = .returned (.slice (some ⟨w.heap.size,0,none⟩) n n) /\ MatQ w' w.heap.size gi n m (fun _ _=>.zero) /\ MatSep w.heap.size w.heap.size gi n /\ Below w.heap.size w w':=by
 obtain ⟨W1,hr1,hb1,hs1,hP1⟩:=make_pmv n m hn w (fun _ _=>True) (fun _ _=>.zero) (fun _=>0)
 have HW:=hid (fun W=>rWhole_any 0 W oM oM)
 rw [Cx.int_zero'] at HW
 have HB:=hid hb1
 have HP:=hid hP1
 clear hb1 hP1
 go_enter Tryz.func62,Tryz.ntmps62
 go_wp2
 clear hr1
 go_loopw [6] (fun iv wr=>∃ (i:Nat) (gi:Nat -> Nat),iv = .int .i64 (i:Int) /\ i <= n /\ Below w.heap.size w wr /\ PMV w.heap.size wr w.heap.size gi n m i (fun _ _=>True) (fun _ _=>.zero)) (fun iv _=>n - (intOf iv).toNat)
 case atStart=>exact ⟨0,_,rfl,oM,HB.out,HP.out⟩
 case round =>
  clear HB HP
  obtain ⟨i,gi,rfl,hi,hB,hP⟩:=hrel
  by_cases hlt:i < n
  ·obtain ⟨W2,hr2,hb2,hs2,hN2⟩:=make_rowq m hm wr
   have P2:=hP.below hb2
   have f1:=P2.cell_nil (Nat.le_refl i) hlt
   have f2:=P2.frozen i
   obtain ⟨P3,hB2,hE2⟩:=(hP.to (V':=fun a b=>a < i) (F':=fun _ _=>.zero) fun _ _ _ _ _=>⟨trivial,rfl⟩).row hb2 lR (hN2.to (V':=fun _=>i < i) (f':=fun _=>.zero) fun j _ h=>absurd h oM) hlt
   have K4:=hid P3
   have L4:=hid (hB2.below (bT hB hb2) lR)
   clear P3 hB2 hE2 P2 hP hB hb2 hs2 hN2
   obtain ⟨g2,hg2⟩:∃ g2,g2 = upf gi i wr.heap.size:=⟨_,rfl⟩
   rw [<- hg2] at K4
   clear hg2
   have hi1:i < i + 1:=Nat.lt_succ_self i
   go_wp2
   clear hr2 f1 f2
   go_loopw [7] (fun kv wx=>∃ k:Nat,kv = .int .i64 (k:Int) /\ k <= m /\ Below w.heap.size w wx /\ PMV w.heap.size wx w.heap.size g2 n m (i + 1) (fun a b=>a < i ∨ b < k) (fun _ _=>.zero)) (fun kv _=>m - (intOf kv).toNat)
   case atStart=>exact ⟨0,rfl,oM,L4.out,K4.out.to fun a b _ _ h=>⟨h.resolve_right oM,rfl⟩⟩
   case round =>
    clear L4 K4
    obtain ⟨k,rfl,hkm,hB,hP⟩:=hrel
    have KB:=hid hB
    have HM:=hid hP
    clear hB hP
    by_cases hk:k < m
    ·have hk0:(0:Int) <= (k:Int):=oM
     have hk1:(k:Int) < (m:Int):=oM
     go_upto_region 9 with fail
     refine region_last [.val (kIs (.slice (some ⟨w.heap.size,0,none⟩) n n)),.val (kIs (.int .i64 (i:Int))),.val (kIs (.pointer (some ⟨w.heap.size,i,none⟩))),.val (kIs (.slice (some ⟨g2 i,0,none⟩) m m)),.val (kIs (.int .i64 (k:Int))),.val (kQ .zero),.val (kIs (.pointer (some ⟨g2 i,5 * k,none⟩)))]
      kR kR kR kR kR ⟨Stab.b (stab_is _),Stab.b (stab_is _),Stab.b (stab_is _),Stab.b (stab_is _),Stab.b (stab_is _),stabB_q _,Stab.b (stab_is _),trivial⟩ sP (ol:=_) rfl kR ⟨?_,?_,?_,?_,?_,?_,?_,trivial⟩ ?_
     ·exact obp
     ·exact obp
     ·intro ts W hb hB hp; have h0:ts 0 = _:=hp 0 kR; have h1:ts 1 = _:=hp 1 kR; intro K hK; simp only [fillT,zA,Nat.reduceAdd,sA,sB,sC,h0,h1] at hK ⊢; have HK:=hid hK; clear hK hp; refine ⟨?_⟩; go_simp; exact HK.out _ _ rfl rfB
     ·intro ts W hb hB hp; have h2:ts 2 = _:=hp 2 kR; intro K hK; simp only [fillT,zA,Nat.reduceAdd,sA,sB,sC,h2] at hK ⊢; have HK:=hid hK; clear hK hp; have hcell:=(HM.out.below hb).cell hi1; refine ⟨?_⟩; go_simp; exact HK.out _ _ rfl rfB
     ·exact obp
     ·intro ts W hb hB hp K hK; simp only [fillT,zA,Nat.reduceAdd,sA,sB,sC] at hK ⊢; have HK:=hid hK; clear hK hp; refine ⟨?_⟩; go_simp; refine (HW.out W).mono ?_; rintro e W9 ⟨r9,rfl,hr9,hb9⟩; exact HK.out _ _ hr9 hb9
     ·intro ts W hb hB hp; have h3:ts 3 = _:=hp 3 kR; have h4:ts 4 = _:=hp 4 kR; intro K hK; simp only [fillT,zA,Nat.reduceAdd,sA,sB,sC,h3,h4] at hK ⊢; have HK:=hid hK; clear hK hp; refine ⟨?_⟩; go_simp; exact HK.out _ _ (by simp [kIs,Nat.mul_comm]) rfB
     intro ts W3 hb3 hh hap K hK
     have h9:=held_q (hh 5 sP) rfl
     have e9:=held_is (hh 6 sP) rfl
     have HK:=hid hK
     clear hK hh hap
     simp only [fillT,zA,Nat.reduceAdd,sA,sB,sC,e9]
     refine ⟨?_⟩
     refine wp_store_qe rfl (k:=k) rfl rfl ((HM.out.below hb3).rows _ hi1) hk h9 (fun W4 hbut hext hrow=>HK.out _ _ ?_)
     clear e9 h9
     have M3:=(HM.out.below hb3).set hi1 hbut hext hrow
     have M4:=hid (M3.to (V':=fun a b=>a < i ∨ b < k + 1) (F':=fun _ _=>.zero) fun a b ha hb hv=>by
      by_cases h:a = i
      ·subst h
       rw [upf_same,upf_same]
       refine ⟨?_,?_⟩
       ·by_cases h2:b = k
        ·exact .inr h2
        ·exact .inl oM
       ·unfold upf; split <;> rfl
      ·rw [upf_other _ _ h,upf_other _ _ h]
       exact ⟨.inl oM,rfl⟩)
     have B4:=hid (hbut.below (bT KB.out hb3) (HM.out.sep.los i hi1))
     clear hbut hext hrow hb3 M3 HM KB
     go_wp2
     go_roundw
     case rel=>exact ⟨k + 1,by go_num,oM,B4.out,M4.out⟩
     case measure=>exact mS
    ·obtain rfl:k = m:=oM
     have HM3:=hid (HM.out.to (V':=fun _ _=>True) (F':=fun _ _=>.zero) fun a b ha hb _=>⟨.inr hb,rfl⟩)
     go_wp2
     go_roundw
     case rel=>exact ⟨i + 1,g2,by go_num,oM,KB.out,HM3.out⟩
     case measure=>exact mS
  ·obtain rfl:i = n:=oM
   have KB:=hid hB
   have HD:=hid (hP.done fun _ _ _ _=>trivial)
   clear hB hP
   go_wp2
   go_ret
   exact ⟨_,rfl,HD.out.1,HD.out.2,KB.out⟩
theorem MatQ.qss {W:World} {go:Nat} {gi:Nat -> Nat} {n m:Nat} {F:Nat -> Nat -> Cx} (h:MatQ W go gi n m F) (c:Nat):QSS W (.slice (some ⟨go,0,none⟩) n c) n (fun _=>m) F:=by
 refine ⟨_,c,rfl,fun _=>⟨go,gi,rfl,?_⟩⟩
 obtain ⟨cs,h1,h2,h3,h4⟩:=h
 exact ⟨cs,h1,h2,h3,h4⟩
def colsOf (n:Nat) (ml:Nat -> Nat):Nat:=if n = 0 then 0 else ml 0
def uptoI (i:Nat):Nat -> Nat -> Cx:=fun a b=>if a = b /\ a < i then Cx.int 1 else .zero
theorem uptoI_next (i:Nat):upm (uptoI i) i i (Cx.int 1) = uptoI (i + 1):=by
 funext a b
 unfold upm upf uptoI
 by_cases h:a = i
 ·subst h
  simp only [if_true]
  by_cases h2:b = a
  ·subst h2; simp
  ·simp only [if_neg h2]
   rw [if_neg oM,if_neg oM]
 ·simp only [if_neg h]
  by_cases h2:a = b /\ a < i
  ·rw [if_pos h2,if_pos oM]
  ·rw [if_neg h2,if_neg oM]
end Go.Proofs.YtffegeaflohfhaaGreatDoor
