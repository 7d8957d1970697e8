import Derived.RegionTactic
import Derived.Test.YtffegeaflohfhaaGreatDoorS15
import Derived.Test.YtffegeaflohfhaaGreatDoorS18
import Derived.Test.YtffegeaflohfhaaGreatDoorS22
import Derived.Test.YtffegeaflohfhaaGreatDoorS02
set_option linter.unusedVariables false
set_option linter.unusedSimpArgs false
set_option maxRecDepth 100000
set_option maxHeartbeats 8000000
namespace Go.Proofs.YtffegeaflohfhaaGreatDoor
open Go.RowKit
theorem squareN_rect (w:World) (go:Nat) (gi:Nat -> Nat) (n m:Nat) (F:Nat -> Nat -> Cx) (h:MatAt w go gi n m F) (hn:0 < n) (hn1:n <= 32) (hm1:m <= 32) :
  Calls Tryz.prog 43 #[.slice (some ⟨go,0,none⟩) n n] w fun e w'=>e = .returned (.bool (decide (n = m))) /\ Below w.heap.size w w':=by
 have H:=hid (sidesN_rect w go gi n m F h hn hn1 hm1)
 clear h
 by_cases hnm:n = m
 ·have hd:decide (n = m) = true:=by simp [hnm]
  have HD:=hid hd
  have he:(n:Int) = (m:Int):=oM
  clear hd hnm
  go_enter Tryz.func43,Tryz.ntmps43
  go_wp2_with fail
  refine H.out.mono ?_
  rintro e W2 ⟨rfl,hb⟩
  go_wp2
  go_ret
  exact ⟨by rw [HD.out]; rfl,hb⟩
 ·have hd:decide (n = m) = false:=by simp [hnm]
  have HD:=hid hd
  have he:((n:Int) == (m:Int)) = false:=sO
  clear hd
  go_enter Tryz.func43,Tryz.ntmps43
  go_wp2_with fail
  refine H.out.mono ?_
  rintro e W2 ⟨rfl,hb⟩
  go_wp2
  go_ret
  exact ⟨by rw [HD.out]; rfl,hb⟩
theorem squareN_nil (w:World) (A:Option Addr) (c:Nat) :
  Calls Tryz.prog 43 #[.slice A 0 c] w fun e w'=>e = .returned (.bool true) /\ Below w.heap.size w w':=by
 have H:=hid (sidesN_nil w A c)
 go_enter Tryz.func43,Tryz.ntmps43
 go_wp2_with fail
 refine H.out.mono ?_
 rintro e W2 ⟨rfl,hb⟩
 go_wp2
 go_ret
 exact ⟨rfl,hb⟩
def swp {α:Type} (f:Nat -> α) (c p:Nat):Nat -> α:=fun i=>if i = c then f p else if i = p then f c else f i
theorem MatAt.oddOut {W:World} {go:Nat} {gi:Nat -> Nat} {n m:Nat} {F:Nat -> Nat -> Cx} (h:MatAt W go gi n m F):∃ cs,W.heap[go]? = some (.cells cs 46 (0,0)) /\ oddB cs = true:=by
 obtain ⟨cs,h1,h2,h3,-⟩:=h
 refine ⟨cs,h1,?_⟩
 unfold oddB
 rw [List.all_eq_true]
 intro v hv
 obtain ⟨i,hi,rfl⟩:=List.getElem_of_mem hv
 have hi':i < n:=by simpa [h2] using hi
 have:=h3 i hi'
 obtain ⟨hlt,hu⟩:=Array.getElem?_eq_some_iff.1 this
 have e:cs.toList[i] = .slice (some ⟨gi i,0,none⟩) m m:=by simpa using hu
 rw [e]
theorem setCell_but {W:World} {g i:Nat} {cs:Array Value} {T:TypeId} (h:W.heap[g]? = some (.cells cs T (0,0))) (v:Value):But W (W.setCell ⟨g,i,none⟩ v) g /\ (W.setCell ⟨g,i,none⟩ v).heap[g]? = some (.cells (cs.setIfInBounds i v) T (0,0)):=by
 rw [setCell_eq_setRow W g i cs _ (0,0) _ h]
 exact ⟨But.setRow _ _ _,setRow_heap W g cs _ _ _ h⟩
theorem MatAt.swap {B:Nat} {W:World} {go:Nat} {gi:Nat -> Nat} {n m c p:Nat} {F:Nat -> Nat -> Cx} (h:MatAt W go gi n m F) (hs:MatSep B go gi n) (hc:c < n) (hp:p < n) (hcp:c ≠ p) :
  MatAt ((W.setCell ⟨go,c,none⟩ (.slice (some ⟨gi p,0,none⟩) m m)).setCell ⟨go,p,none⟩ (.slice (some ⟨gi c,0,none⟩) m m)) go (swp gi c p) n m (swp F c p) /\ MatSep B go (swp gi c p) n /\
  Below B W ((W.setCell ⟨go,c,none⟩ (.slice (some ⟨gi p,0,none⟩) m m)).setCell ⟨go,p,none⟩ (.slice (some ⟨gi c,0,none⟩) m m)):=by
 obtain ⟨cs0,hz,hodd⟩:=h.oddOut
 obtain ⟨cs,h1,h2,h3,h4⟩:=h
 rw [h1] at hz
 have he0:cs0 = cs:=by cases hz; rfl
 rw [he0] at hodd
 clear hz he0 cs0
 obtain ⟨b1,x1⟩:=setCell_but (i:=c) h1 (.slice (some ⟨gi p,0,none⟩) m m)
 obtain ⟨b2,x2⟩:=setCell_but (i:=p) x1 (.slice (some ⟨gi c,0,none⟩) m m)
 have e1:=b1.ext h1 hodd
 have hodd2:oddB (cs.setIfInBounds c (.slice (some ⟨gi p,0,none⟩) m m)) = true:=by
  unfold oddB at *
  rw [List.all_eq_true] at *
  intro v hv
  rw [Array.toList_setIfInBounds] at hv
  rcases List.mem_or_eq_of_mem_set hv with hv | rfl
  ·exact hodd v hv
  ·rfl
 have e2:=b2.ext x1 hodd2
 refine ⟨⟨_,x2,by simp [h2],fun i hi=>?_,fun i hi=>?_⟩,⟨hs.lo,fun i hi=>?_,fun i hi=>?_,fun i j hi hj e=>?_⟩,b2.below (b1.below rfB hs.lo) hs.lo⟩
 ·rw [Array.getElem?_setIfInBounds,Array.getElem?_setIfInBounds]
  unfold swp
  by_cases hip:p = i
  ·subst hip
   rw [if_pos rfl,if_pos sO,if_neg (fun e=>hcp e.symm),if_pos rfl]
  ·rw [if_neg hip]
   by_cases hic:c = i
   ·subst hic
    rw [if_pos rfl,if_pos oM,if_pos rfl]
   ·rw [if_neg hic,if_neg (fun e=>hic e.symm),if_neg (fun e=>hip e.symm)]
    exact h3 i hi
 ·have key:∀ j,j < n -> NBlk ((W.setCell ⟨go,c,none⟩ (.slice (some ⟨gi p,0,none⟩) m m)).setCell ⟨go,p,none⟩ (.slice (some ⟨gi c,0,none⟩) m m)) (gi j) m (F j):=fun j hj =>
   ((h4 j hj).but b1 e1 (hs.ne j hj)).but b2 e2 (hs.ne j hj)
  unfold swp
  by_cases hic:i = c
  ·rw [if_pos hic,if_pos hic]; exact key p hp
  ·rw [if_neg hic,if_neg hic]
   by_cases hip:i = p
   ·rw [if_pos hip,if_pos hip]; exact key c hc
   ·rw [if_neg hip,if_neg hip]; exact key i hi
 ·unfold swp
  split
  ·exact hs.los p hp
  ·split
   ·exact hs.los c hc
   ·exact hs.los i hi
 ·unfold swp
  split
  ·exact hs.ne p hp
  ·split
   ·exact hs.ne c hc
   ·exact hs.ne i hi
 ·unfold swp at e
  have I:=hs.inj
  by_cases h1:i = c <;> by_cases h2:j = c <;> by_cases h3:i = p <;> by_cases h4:j = p <;> simp only [h1,h2,h3,h4,if_true,if_false] at e <;> first | omega | (have:=I _ _ oM oM e; omega) | skip
  all_goals (try simp_all)
  all_goals (first | omega | (have:=I _ _ oM oM e; omega))
theorem pivF_cases (F:Nat -> Nat -> Cx) (c:Nat):∀ (d i:Nat),(pivF F c i d = -1 /\ ∀ j,i <= j -> j < i + d -> F j c = .zero) ∨ ∃ p,i <= p /\ p < i + d /\ pivF F c i d = (p:Int) /\ F p c ≠ .zero /\ ∀ j,i <= j -> j < p -> F j c = .zero:=by
 intro d
 induction d with
 | zero=>intro i; exact .inl ⟨rfl,fun j h1 h2=>absurd h2 oM⟩
 | succ d ih =>
  intro i
  rw [pivF]
  by_cases h:F i c = .zero
  ·rw [if_pos h]
   rcases ih (i + 1) with ⟨h1,h2⟩ | ⟨p,h1,h2,h3,h4,h5⟩
   ·refine .inl ⟨h1,fun j a b=>?_⟩
    by_cases hj:j = i
    ·rw [hj]; exact h
    ·exact h2 j oM oM
   ·refine .inr ⟨p,oM,oM,h3,h4,fun j a b=>?_⟩
    by_cases hj:j = i
    ·rw [hj]; exact h
    ·exact h5 j oM b
  ·rw [if_neg h]
   exact .inr ⟨i,Nat.le_refl _,oM,rfl,h,fun j a b=>absurd b oM⟩
def elimS (n:Nat):Nat -> Nat -> (Nat -> Nat -> Cx) -> Nat -> Nat × Nat × (Nat -> Nat -> Cx)
 | 0,c,F,ex=>(c,ex,F)
 | d + 1,c,F,ex =>
  if pivF F c c (n - c) < 0 then (c,ex,F)
  else if pivF F c c (n - c) = (c:Int) then elimS n d (c + 1) (clearF F c c n) ex
  else elimS n d (c + 1) (clearF (swp F c (pivF F c c (n - c)).toNat) c c n) (ex + 1)
def szE (s:Nat):Nat -> Nat
 | 0=>s
 | c + 1=>5 * szE s c + 4
theorem szE_mono (s:Nat):∀ {a b:Nat},a <= b -> szE s a <= szE s b:=by
 intro a b h
 induction h with
 | refl=>exact Nat.le_refl _
 | step _ ih=>rw [szE]; omega
theorem Sz.clearF {F:Nat -> Nat -> Cx} {n m r c s:Nat} (hS:∀ a b,a < n -> b < m -> Sz (F a b) s) (hr:r < n) (hc:c < m):∀ a b,a < n -> b < m -> Sz (clearF F r c n a b) (5 * s + 4):=fun a b ha hb=>by
 unfold Go.Proofs.YtffegeaflohfhaaGreatDoor.clearF clearP
 split
 ·have h1:=(hS a c ha hc).div (hS r c hr hc)
  have h2:=(hS a b ha hb).sub (h1.mul (hS r b hr hb))
  exact h2.mono oM
 ·exact (hS a b ha hb).mono oM
theorem Sz.swp {F:Nat -> Nat -> Cx} {n m c p s:Nat} (hS:∀ a b,a < n -> b < m -> Sz (F a b) s) (hc:c < n) (hp:p < n):∀ a b,a < n -> b < m -> Sz (swp F c p a b) s:=fun a b ha hb=>by
 unfold Go.Proofs.YtffegeaflohfhaaGreatDoor.swp
 split
 ·exact hS p b hp hb
 ·split
  ·exact hS c b hc hb
  ·exact hS a b ha hb
/- eliminate -/
def RetElim (B:Nat) (w:World) (go n m:Nat) (R:Nat × Nat × (Nat -> Nat -> Cx)) (e:Ending) (w':World):Prop :=
 ∃ gi,e = .returned (.tuple #[.int .i64 R.1,.int .i64 R.2.1]) /\ MatAt w' go gi n m R.2.2 /\ MatSep B go gi n /\ Below B w w'
theorem eliminateN_any (B:Nat) (w:World) (go:Nat) (gi:Nat -> Nat) (n m s:Nat) (F:Nat -> Nat -> Cx) (h:MatAt w go gi n m F) (hs:MatSep B go gi n) (hTB:1 < B) (hT:Tab w)
  (hnm:n <= m) (hm:m <= 1073741824) (hS:∀ a b,a < n -> b < m -> Sz (F a b) s) (h5:szE s n < 549755813888) :
  Calls Tryz.prog 46 #[.slice (some ⟨go,0,none⟩) n n] w (RetElim B w go n m (elimS n n 0 F 0)):=by
 have hBw:B <= w.heap.size:=by have:=hs.lo; have:=h.lt; omega
 have H0:=hid h
 have HS0:=hid hS
 have HP0:=hid hs
 have TB:=hid hT
 clear h hT hS hs
 obtain ⟨R,hR⟩:∃ R,R = elimS n n 0 F 0:=⟨_,rfl⟩
 rw [<- hR]
 have HR:=hid hR
 clear hR
 go_enter Tryz.func46,Tryz.ntmps46
 go_wp2
 go_loopw [8,3] (fun j e wr=>∃ (c ex:Nat) (g1:Nat -> Nat) (F1:Nat -> Nat -> Cx),j = .int .i64 c /\ e = .int .i64 ex /\ c <= n /\ ex <= c /\ R = elimS n (n - c) c F1 ex /\ MatAt wr go g1 n m F1 /\ MatSep B go g1 n /\ Below B w wr /\ (∀ a b,a < n -> b < m -> Sz (F1 a b) (szE s c))) (fun j _ _=>n - (intOf j).toNat)
 case atStart=>exact ⟨0,0,gi,F,rfl,rfl,oM,oM,HR.out,H0.out,HP0.out,Below.refl _ _,HS0.out⟩
 case round =>
  obtain ⟨c,ex,g1,F1,rfl,rfl,hcn,hex,hE,hM,hP,hB,hS⟩:=hrel
  have hBr:B <= wr.heap.size:=Nat.le_trans hBw hB.size
  have HE:=hid hE
  have H:=hid hM
  have HP:=hid hP
  have KB:=hid hB
  have HS:=hid hS
  clear hE hM hP hB hS
  by_cases hlt:c < n
  ·have hpv:=hid (pivotN_any wr go g1 n m c c F1 H.out oM oM oM hm)
   have hsz:szE s (c + 1) <= szE s n:=szE_mono s oM
   have hsz':5 * szE s c + 4 < 549755813888:=by rw [szE] at hsz; omega
   clear hsz
   rcases pivF_cases F1 c (n - c) c with ⟨hp,-⟩ | ⟨p,hcp,hpn,hp,-,-⟩
   ·have HRf:=hid (show R = (c,ex,F1) by rw [HE.out,show n - c = (n - c - 1) + 1 by omega,elimS,if_pos (by rw [hp]; omega)])
    rw [hp] at hpv
    clear hp
    go_wp2_with fail
    refine hpv.out.mono ?_
    rintro e W2 ⟨rfl,hb2⟩
    have HB2:=hid hb2
    clear hb2
    go_wp2
    go_ret2
    exact ⟨g1,by rw [HRf.out]; rfl,by rw [HRf.out]; exact H.out.below HB2.out,HP.out,KB.out.trans (HB2.out.mono hBr)⟩
   ·rw [hp] at hpv
    have hp0:¬ ((p:Int) < 0):=oM
    by_cases hpc:p = c
    ·subst hpc
     have HRf:=hid (show R = elimS n (n - (p + 1)) (p + 1) (clearF F1 p p n) ex by rw [HE.out,show n - p = (n - (p + 1)) + 1 by omega,elimS,if_neg (by rw [hp]; omega),if_pos hp])
     clear hp
     go_wp2_with fail
     refine hpv.out.mono ?_
     rintro e W2 ⟨rfl,hb2⟩
     have HB2:=hid (KB.out.trans (hb2.mono hBr))
     have HM2:=hid (H.out.below hb2)
     clear hb2
     go_wp2_with fail
     refine (clearBelowN_any B _ go g1 n m p p (szE s p) F1 HM2.out HP.out hTB (TB.out.belowB hTB HB2.out) hlt oM oM hm HS.out hsz').mono ?_
     rintro e W3 ⟨rfl,hm3,hb3⟩
     have HM3:=hid hm3
     have HB3:=hid (HB2.out.trans hb3)
     clear hm3 hb3
     go_wp2
     go_roundw
     case rel=>exact ⟨p + 1,ex,g1,_,by go_num,rfl,oM,oM,HRf.out,HM3.out,HP.out,HB3.out,Sz.clearF HS.out hlt oM⟩
     case measure=>exact mS
    ·have HRf:=hid (show R = elimS n (n - (c + 1)) (c + 1) (clearF (swp F1 c p) c c n) (ex + 1) by rw [HE.out,show n - c = (n - (c + 1)) + 1 by omega,elimS,if_neg (by rw [hp]; omega),if_neg (by rw [hp]; omega),hp]; rfl)
     clear hp
     have hpc':((p:Int) == (c:Int)) = false:=sO
     have hpn':p < n:=oM
     go_wp2_with fail
     refine hpv.out.mono ?_
     rintro e W2 ⟨rfl,hb2⟩
     have HB2:=hid (KB.out.trans (hb2.mono hBr))
     have HM2:=hid (H.out.below hb2)
     clear hb2
     have x1:=HM2.out.cell hlt
     have x2:=HM2.out.cell hpn'
     have y1:=HM2.out.frozen c
     have y2:=HM2.out.frozen p
     go_upto_region 8 with fail
     have i1:(c:Int) < (n:Int):=oM
     have i2:(p:Int) < (n:Int):=oM
     have i3:(0:Int) <= (c:Int):=oM
     have n1:¬ c = p:=oM
     have x3:(W2.drew.setCell ⟨go,c,none⟩ (.slice (some ⟨g1 p,0,none⟩) m m)).cell? ⟨go,p,none⟩ = some (.slice (some ⟨g1 p,0,none⟩) m m):=by
      rw [World.cell?_setCell_other _ _ _ _ (by intro e; injection e with _ e; exact n1 e)]
      exact x2
     go_region
     obtain ⟨m5,s5,b5⟩:=HM2.out.swap HP.out hlt hpn' n1
     have m6:=m5.below (W':=World.drew _) (rfB.drew)
     have b6:=b5.drew
     have HM6:=hid m6
     have HP6:=hid s5
     have HB6:=hid (HB2.out.trans b6)
     clear x1 x2 y1 y2 x3 m5 s5 b5 m6 b6
     generalize ((W2.setCell ⟨go,c,none⟩ (.slice (some ⟨g1 p,0,none⟩) m m)).setCell ⟨go,p,none⟩ (.slice (some ⟨g1 c,0,none⟩) m m)).drew = W6 at *
     go_wp2_with fail
     refine (clearBelowN_any B W6 go (swp g1 c p) n m c c (szE s c) (swp F1 c p) HM6.out HP6.out hTB (TB.out.belowB hTB HB6.out) hlt oM oM hm (Sz.swp HS.out hlt hpn') hsz').mono ?_
     rintro e W3 ⟨rfl,hm3,hb3⟩
     have HM3:=hid hm3
     have HB3:=hid (HB6.out.trans hb3)
     clear hm3 hb3
     go_wp2
     go_roundw
     case rel=>exact ⟨c + 1,ex + 1,swp g1 c p,_,by go_num,by go_num,oM,oM,HRf.out,HM3.out,HP6.out,HB3.out,Sz.clearF (Sz.swp HS.out hlt hpn') hlt oM⟩
     case measure=>exact mS
  ·obtain rfl:c = n:=oM
   have HRf:=hid (show R = (c,ex,F1) by rw [HE.out,Nat.sub_self,elimS])
   go_wp2
   go_ret2
   exact ⟨g1,by rw [HRf.out]; rfl,by rw [HRf.out]; exact H.out,HP.out,KB.out⟩
theorem int_zero:Cx.int 0 = .zero:=by apply Cx.ext <;> simp [Cx.int,Cx.zero]
theorem zeroFromN_true (w:World) (go:Nat) (gi:Nat -> Nat) (n m c s:Nat) (F:Nat -> Nat -> Cx) (h:MatAt w go gi n m F) (hn:n <= 1073741824) (hcn:c <= n) (hc:c < m) (hm:m <= 1073741824) (hS:∀ a,a < n -> Sz (F a c) s) (hs1:1 <= s) (hs:s < 549755813888)
  (hz:∀ j,c <= j -> j < n -> F j c = .zero) :
  Calls Tryz.prog 47 #[.slice (some ⟨go,0,none⟩) n n,.int .i64 c] w fun e w'=>e = .returned (.bool true) /\ Below w.heap.size w w':=by
 have hS0:Sz (.int 0) s:=Sz.int (by simp [wl_zero]) hs1
 have H0:=hid h
 have HS:=hid hS
 have HZ:=hid hz
 clear h hS hz
 go_enter Tryz.func47,Tryz.ntmps47
 go_upto_region 1 with fail
 refine region_lin [.val (kNum (.int 0)),.box 35 zNum,.put 1 0]
  kR kR kR kR kR ⟨stab_num _,trivial⟩ sP ⟨?_,alloc_num,store_num _,trivial⟩ ?_
 ·intro ts W hb hB hp K hK
  simp only [fillT,zA,Nat.reduceAdd,sA,sB,sC] at hK ⊢
  have HK:=hid hK
  clear hK hp
  refine ⟨?_⟩
  go_simp
  refine (constant_any 0 _ oM oM).mono ?_
  rintro e W9 ⟨r9,rfl,hr9,hb9⟩
  exact HK.out _ _ hr9 hb9
 intro ts W2 hb2 hh hap
 obtain ⟨g5,A5,n5,c5,p5,A5b,n5b,c5b,p5b,A5c,n5c,c5c,e1,lo5,z5,X5,N5⟩:=held_box (x:=.int 0) (hh 1 sP) rfl (hh 2 sP) rfl (hh 0 sP) rfl
 simp only [fillT,zA,Nat.reduceAdd,sA,sB,sC,e1]
 clear hh hap e1
 generalize ts 0 = u0_W2 at *
 clear ts
 have H1:=hid (H0.out.below hb2)
 have HB:=hid hb2
 have HX:=hid X5
 clear hb2 lo5 z5 X5
 go_wp2
 go_loopw [6] (fun i wr=>∃ k:Nat,i = .int .i64 k /\ c <= k /\ k <= n /\ MatAt wr go gi n m F /\ wr.heap[g5]? = some (.cells #[.slice A5 n5 c5,.bool p5,.slice A5b n5b c5b,.bool p5b,.slice A5c n5c c5c] 35 (0,0)) /\ IsNum wr (.agg #[.slice A5 n5 c5,.bool p5,.slice A5b n5b c5b,.bool p5b,.slice A5c n5c c5c]) (.int 0) /\ Below w.heap.size w wr) (fun i _=>n - (intOf i).toNat)
 case atStart=>exact ⟨c,rfl,oM,hcn,H1.out,HX.out,N5,HB.out⟩
 case round =>
  obtain ⟨k,rfl,hck,hk,hM,X5,N5,hB⟩:=hrel
  have H:=hid hM
  have KB:=hid hB
  have z5:g5 < wr.heap.size:=heap_ge_none X5
  clear hM hB
  by_cases hlt:k < n
  ·have hd:decide (F k c = .int 0) = true:=by rw [int_zero]; exact decide_eq_true (HZ.out k hck hlt)
   have HD:=hid hd
   clear hd
   go_upto_region 5 with fail
   refine region_lin [.val (kIs (.slice (some ⟨go,0,none⟩) n n)),.val (kIs (.int .i64 (k:Int))),.val (kIs (.pointer (some ⟨go,k,none⟩))),.val (kIs (.slice (some ⟨gi k,0,none⟩) m m)),.val (kIs (.int .i64 (c:Int))),.val (kIs (.pointer (some ⟨(gi k),5 * c,none⟩))),.val (kNum (F k c)),.val (kIfc (F k c)),.val (kIs (.agg #[.slice A5 n5 c5,.bool p5,.slice A5b n5b c5b,.bool p5b,.slice A5c n5c c5c])),.val (kIs (.bool (decide (F k c = .int 0)))),.val (kIs (.bool (!decide (F k c = .int 0))))]
    kR kR kR kR kR ⟨Stab.b (stab_is _),Stab.b (stab_is _),Stab.b (stab_is _),Stab.b (stab_is _),Stab.b (stab_is _),Stab.b (stab_is _),Stab.b (stab_num _),Stab.b (stab_ifc _),Stab.b (stab_is _),Stab.b (stab_is _),Stab.b (stab_is _),trivial⟩ sP ⟨?_,?_,?_,?_,?_,?_,?_,?_,?_,?_,?_,trivial⟩ ?_
   ·intro ts W hb hB hp K hK
    simp only [fillT,zA,Nat.reduceAdd,sA,sB,sC] at hK ⊢
    have HK:=hid hK
    clear hK hp
    refine ⟨?_⟩
    go_simp
    exact HK.out _ _ rfl rfB
   ·intro ts W hb hB hp K hK
    simp only [fillT,zA,Nat.reduceAdd,sA,sB,sC] at hK ⊢
    have HK:=hid hK
    clear hK hp
    refine ⟨?_⟩
    go_simp
    exact HK.out _ _ rfl rfB
   ·intro ts W hb hB hp
    have h0:ts 0 = _:=hp 0 kR
    have h1:ts 1 = _:=hp 1 kR
    intro K hK
    simp only [fillT,zA,Nat.reduceAdd,sA,sB,sC,h0,h1] at hK ⊢
    have HK:=hid hK
    clear hK hp
    refine ⟨?_⟩
    go_simp
    exact HK.out _ _ rfl rfB
   ·intro ts W hb hB hp
    have h2:ts 2 = _:=hp 2 kR
    intro K hK
    simp only [fillT,zA,Nat.reduceAdd,sA,sB,sC,h2] at hK ⊢
    have HK:=hid hK
    clear hK hp
    have hcell:=(H.out.below hb).cell hlt
    refine ⟨?_⟩
    go_simp
    exact HK.out _ _ rfl rfB
   ·intro ts W hb hB hp K hK
    simp only [fillT,zA,Nat.reduceAdd,sA,sB,sC] at hK ⊢
    have HK:=hid hK
    clear hK hp
    refine ⟨?_⟩
    go_simp
    exact HK.out _ _ rfl rfB
   ·intro ts W hb hB hp
    have h3:ts 3 = _:=hp 3 kR
    have h4:ts 4 = _:=hp 4 kR
    intro K hK
    simp only [fillT,zA,Nat.reduceAdd,sA,sB,sC,h3,h4] at hK ⊢
    have HK:=hid hK
    clear hK hp
    refine ⟨?_⟩
    go_simp
    exact HK.out _ _ (by simp [kIs,Nat.mul_comm]) rfB
   ·intro ts W hb hB hp
    have h5:ts 5 = _:=hp 5 kR
    intro K hK
    simp only [fillT,zA,Nat.reduceAdd,sA,sB,sC,h5] at hK ⊢
    have HK:=hid hK
    clear hK hp
    refine ⟨?_⟩
    refine wp_load_elem rfl rfl ((H.out.row hlt).below hb) hc (fun v hv=>HK.out _ _ (hv) rfB)
   ·intro ts W hb hB hp
    have h6:IsNum W (ts 6) (F k c):=hp 6 kR
    intro K hK
    simp only [fillT,zA,Nat.reduceAdd,sA,sB,sC] at hK ⊢
    have HK:=hid hK
    clear hK hp
    refine ⟨?_⟩
    go_simp
    exact HK.out _ _ ⟨_,rfl,h6⟩ rfB
   ·intro ts W hb hB hp K hK
    simp only [fillT,zA,Nat.reduceAdd,sA,sB,sC] at hK ⊢
    refine ⟨?_⟩
    refine wp_load_row _ _ rfl (g5) rfl _ _ (0,0) _ ((hb.block _ (z5)).trans X5) Tryz.underlying35 rfl kR ?_
    exact hK _ _ rfl rfB
   ·intro ts W hb hB hp
    have h7:=hp 7 kR
    have h8:ts 8 = _:=hp 8 kR
    intro K hK
    simp only [fillT,zA,Nat.reduceAdd,sA,sB,sC,h8] at hK ⊢
    have HK:=hid hK
    clear hK hp
    obtain ⟨u7,e7,n7⟩:=h7
    refine ⟨?_⟩
    refine wp_invoke rfl (T:=35) (v:=u7) (xs:=#[u7,.agg #[.slice A5 n5 c5,.bool p5,.slice A5b n5b c5b,.bool p5b,.slice A5c n5c c5c]]) e7 inv_Same (by simp [Act.eval]) ?_
    refine (sameN_any u7 _ (F k c) (.int 0) W n7 (N5.below hb) s (HS.out k hlt) hS0 oM).mono ?_
    rintro e W9 ⟨rfl,hb9⟩
    exact HK.out _ _ rfl hb9
   ·intro ts W hb hB hp
    have h9:ts 9 = _:=hp 9 kR
    intro K hK
    simp only [fillT,zA,Nat.reduceAdd,sA,sB,sC,h9] at hK ⊢
    have HK:=hid hK
    clear hK hp
    refine ⟨?_⟩
    go_simp
    exact HK.out _ _ rfl rfB
   intro ts W3 hb3 hh hap
   have e10:=held_is (hh 10 sP) rfl
   simp only [fillT,zA,Nat.reduceAdd,sA,sB,sC,e10]
   clear hh hap e10
   generalize ts 0 = u0_W3 at *
   generalize ts 1 = u1_W3 at *
   generalize ts 2 = u2_W3 at *
   generalize ts 3 = u3_W3 at *
   generalize ts 4 = u4_W3 at *
   generalize ts 5 = u5_W3 at *
   generalize ts 6 = u6_W3 at *
   generalize ts 7 = u7_W3 at *
   generalize ts 8 = u8_W3 at *
   generalize ts 9 = u9_W3 at *
   clear ts
   rw [HD.out]
   have HM3:=hid (H.out.below hb3)
   have HX3:=hid ((hb3.block g5 z5).trans X5)
   have HN3:=hid (N5.below hb3)
   have HB3:=hid (bT KB.out hb3)
   clear hb3 X5 z5 N5
   go_wp2
   go_roundw
   case rel=>exact ⟨k + 1,by go_num,oM,oM,HM3.out,HX3.out,HN3.out,HB3.out⟩
   case measure=>exact mS
  ·obtain rfl:k = n:=oM
   clear X5 z5 N5
   go_wp2
   go_ret
   exact ⟨rfl,KB.out⟩
theorem MatAt.butBox {W W':World} {go:Nat} {gi:Nat -> Nat} {n m:Nat} {F:Nat -> Nat -> Cx} (h:MatAt W go gi n m F) {g:Nat} (hb:But W W' g) (he:Ext W W') (hg:go ≠ g) (hgi:∀ i,i < n -> gi i ≠ g):MatAt W' go gi n m F:=by
 obtain ⟨cs,h1,h2,h3,h4⟩:=h
 exact ⟨cs,(hb.other _ hg).trans h1,h2,h3,fun i hi=>(h4 i hi).but hb he (hgi i hi)⟩
theorem elimS_ok (n:Nat):∀ (d c:Nat) (F:Nat -> Nat -> Cx) (ex:Nat),c + d = n -> (elimS n d c F ex).1 <= n /\ c <= (elimS n d c F ex).1 /\ (elimS n d c F ex).2.1 + c <= ex + (elimS n d c F ex).1 /\
  ((elimS n d c F ex).1 < n -> ∀ j,(elimS n d c F ex).1 <= j -> j < n -> (elimS n d c F ex).2.2 j (elimS n d c F ex).1 = .zero):=by
 intro d
 induction d with
 | zero=>intro c F ex h; simp only [elimS]; exact ⟨oM,oM,oM,fun h'=>absurd h' oM⟩
 | succ d ih =>
  intro c F ex h
  rw [elimS]
  split
  ·rename_i hp
   rcases pivF_cases F c (n - c) c with ⟨-,h2⟩ | ⟨p,h1,h2,h3,-⟩
   ·refine ⟨oM,oM,by simp only []; omega,fun _ j a b=>h2 j a oM⟩
   ·rw [h3] at hp; omega
  ·split
   ·obtain ⟨a1,a2,a3,a4⟩:=ih (c + 1) (clearF F c c n) ex oM
    exact ⟨a1,oM,oM,a4⟩
   ·obtain ⟨a1,a2,a3,a4⟩:=ih (c + 1) (clearF (swp F c (pivF F c c (n - c)).toNat) c c n) (ex + 1) oM
    exact ⟨a1,oM,oM,a4⟩
theorem elimS_sz (n m s:Nat) (hnm:n <= m):∀ (d c:Nat) (F:Nat -> Nat -> Cx) (ex:Nat),c + d = n -> (∀ a b,a < n -> b < m -> Sz (F a b) (szE s c)) -> ∀ a b,a < n -> b < m -> Sz ((elimS n d c F ex).2.2 a b) (szE s n):=by
 intro d
 induction d with
 | zero => intro c F ex h hS; obtain rfl : c = n := oM
           simpa only [elimS] using hS
 | succ d ih =>
  intro c F ex h hS
  rw [elimS]
  rcases pivF_cases F c (n - c) c with ⟨h1,-⟩ | ⟨p,h1,h2,h3,-⟩
  ·rw [if_pos oM]
   exact fun a b ha hb=>(hS a b ha hb).mono (szE_mono s oM)
  ·rw [if_neg oM]
   split
   ·exact ih (c + 1) _ ex oM (Sz.clearF hS oM oM)
   ·have e:(pivF F c c (n - c)).toNat = p:=oM
    rw [e]
    exact ih (c + 1) _ (ex + 1) oM (Sz.clearF (Sz.swp hS oM oM) oM oM)
def prodD (G:Nat -> Nat -> Cx):Nat -> Cx
 | 0=>G 0 0
 | c + 1=>(prodD G c).mul (G (c + 1) (c + 1))
def detR (n:Nat) (R:Nat × Nat × (Nat -> Nat -> Cx)):Cx:=if R.1 < n then .zero else if R.2.1 % 2 = 1 then (prodD R.2.2 (n - 1)).neg else prodD R.2.2 (n - 1)
def detF (n:Nat) (F:Nat -> Nat -> Cx):Cx:=detR n (elimS n n 0 F 0)
theorem Sz.prodD {G:Nat -> Nat -> Cx} {n S:Nat} (h:∀ a b,a < n -> b < n -> Sz (G a b) S):∀ c,c < n -> Sz (prodD G c) ((c + 1) * (S + 1)):=by
 intro c
 induction c with
 | zero=>intro h0; exact (h 0 0 h0 h0).mono oM
 | succ c ih =>
  intro hc
  have h1:=ih oM
  have h2:=h1.mul (h (c + 1) (c + 1) hc hc)
  exact h2.mono (by rw [Nat.add_mul (c + 1) 1 (S + 1)]; omega)
theorem detN_any (w:World) (go:Nat) (gi:Nat -> Nat) (n s:Nat) (F:Nat -> Nat -> Cx) (h:MatAt w go gi n n F) (hn:0 < n) (hn1:n <= 32) (hT:Tab w) (hS:∀ a b,a < n -> b < n -> Sz (F a b) s) (h5:33 * (szE s n + 2) < 549755813888) :
  Calls Tryz.prog 10 #[.slice (some ⟨go,0,none⟩) n n] w (RetNumE w (detF n F) 0):=by
 have hs1:=(hS 0 0 hn hn).pos
 have hgo:=h.lt
 have H0:=hid h
 have HS0:=hid hS
 have HT:=hid hT
 have hn0:¬ (n = 0):=oM
 clear h hS hT
 have HR:=hid (show detF n F = detR n (elimS n n 0 F 0) from rfl)
 go_enter Tryz.func10,Tryz.ntmps10
 go_upto_region 2 with fail
 obtain ⟨W1,hW1⟩:∃ W1:World,W1 = ((w.alloc (.cells zNum 35)).alloc (.cells zNum 35)):=⟨_,rfl⟩
 unfold zNum at hW1
 rw [<- hW1]
 have B1:Below w.heap.size w W1:=by rw [hW1]; exact bel
 have z4:w.heap.size + 1 < W1.heap.size:=by rw [hW1]; simp
 have X2:W1.heap[w.heap.size]? = some (.cells zNum 35 (0,0)):=by rw [hW1]; exact heap_alloc2_old _ _ _
 clear hW1
 have hsq:=squareN_rect W1 go gi n n F (H0.out.below B1) hn hn1 hn1
 have hdn:decide (n = n) = true:=sP
 rw [hdn] at hsq
 clear hdn
 have HQ:=hid hsq
 have HX2:=hid X2
 clear hsq X2
 go_wp2_with fail
 refine HQ.out.mono ?_
 rintro e W2 ⟨rfl,hb⟩
 have HX2:=hid ((hb.block w.heap.size oM).trans HX2.out)
 have B2:=bT B1 hb
 have z2:w.heap.size + 1 < W2.heap.size:=lL z4 hb.size
 clear hb HQ B1 z4
 go_wp2_with fail
 refine (widenedN_any W2 go gi n n 0 F (H0.out.below B2) oM oM).mono ?_
 rintro e W3 ⟨g2,i2,rfl,hM,hP,hb⟩
 have HX3:=hid ((hb.block w.heap.size oM).trans HX2.out)
 have B3:=bT B2 hb
 have z3:w.heap.size + 1 < W3.heap.size:=lL z2 hb.size
 have hM':MatAt W3 g2 i2 n n F:=hM.congr fun a b _ hb=>if_pos ⟨Nat.zero_le _,oM⟩
 have hTB:1 < W2.heap.size:=(HT.out.below B2).1
 have hss:szE s n < 549755813888:=oM
 have hel:=eliminateN_any W2.heap.size W3 g2 i2 n n s F hM' hP hTB (HT.out.below B3) lR oM HS0.out hss
 obtain ⟨a1,-,a3,a4⟩:=elimS_ok n n 0 F 0 oM
 have a5:=elimS_sz n n s lR n 0 F 0 oM HS0.out
 obtain ⟨⟨st,ex,G⟩,hRR⟩:∃ R,R = elimS n n 0 F 0:=⟨_,rfl⟩
 rw [<- hRR] at hel a1 a3 a4 a5 HR
 simp only at a1 a3 a4 a5
 have HEL:=hid hel
 have HA4:=hid a4
 have HSG:=hid a5
 obtain ⟨S,hSS⟩:∃ S,S = szE s n:=⟨_,rfl⟩
 rw [<- hSS] at h5 HSG
 have hS1:1 <= S:=(HSG.out 0 0 hn hn).pos
 have HHB:=hid hb
 clear hb HX2 hM hM' hP hel a4 a5 hRR hss hSS B2
 go_wp2_with fail
 refine HEL.out.mono ?_
 rintro e W4 ⟨i4,rfl,hM,hP,hb⟩
 simp only at hM
 have HX4:=hid ((hb.block w.heap.size oM).trans HX3.out)
 have B4:Below w.heap.size w W4:=B3.trans (hb.mono oM)
 have z5:w.heap.size + 1 < W4.heap.size:=lL z3 hb.size
 have H:=hid hM
 have KW:=hid (HHB.out.trans (hb.mono lR))
 have HPP:=hid hP
 clear hb HX3 hM hP HEL B3 z3 HHB KW
 have hgo4:=HPP.out.lo
 have hTw:1 < w.heap.size:=HT.out.1
 by_cases hst:st < n
 ·have hd:=hid (show detF n F = .zero by rw [HR.out]; exact if_pos hst)
  go_wp2_with fail
  refine (zeroFromN_true W4 g2 i4 n n st S G H.out oM a1 hst oM (fun a ha=>HSG.out a st ha hst) hS1 oM (HA4.out hst)).mono ?_
  rintro e W5 ⟨rfl,hb⟩
  have HX5:=hid ((hb.block w.heap.size oM).trans HX4.out)
  have B5:=bT B4 hb
  have z6:w.heap.size + 1 < W5.heap.size:=lL z5 hb.size
  clear hb HX4 B4 z5
  go_wp2_with fail
  refine (constant_any 0 W5 oM oM).mono ?_
  rintro e W6 ⟨r,rfl,hr,hb⟩
  rw [int_zero] at hr
  obtain ⟨A8,n8,c8,p8,A8b,n8b,c8b,p8b,A8c,n8c,c8c,ia,ib,id,rfl,-⟩:=hr.parts
  obtain ⟨f0,f1,f2,f3,f4,y0,y1,y2,y3,y4⟩:=bx5 ((hb.block w.heap.size oM).trans HX5.out)
  have NB:=NumBox.nil f0 f1 f2 f3 f4
  have HR8:=hid hr
  have B6:=hid (bT B5 hb)
  clear hb hr HX5 B5
  go_wp2
  refine bodyPost_ret (v:=.tuple #[.agg #[.slice A8 n8 c8,.bool p8,.slice A8b n8b c8b,.bool p8b,.slice A8c n8c c8c],.int .i64 0]) (by simp [results,Tryz.results10]; exact run_load5e NB _ _ _ _ _ _) rfl ?_
  rw [hd.out]
  exact RetNumE.box B6.out oM NB HR8.out _ _ _ _ _
 ·obtain rfl:st = n:=oM
  have hn':0 < st:=hn
  go_upto_region 12 with fail
  refine region_lin [.val (kIs (.slice (some ⟨g2,0,none⟩) st st)),.val (kIs (.pointer (some ⟨g2,0,none⟩))),.val (kIs (.slice (some ⟨i4 0,0,none⟩) st st)),.val (kIs (.pointer (some ⟨(i4 0),0,none⟩))),.val (kNum (G 0 0)),.box 35 zNum,.put 5 4]
   kR kR kR kR kR ⟨stab_is _,stab_is _,stab_is _,stab_is _,stab_num _,trivial⟩ sP ⟨?_,?_,?_,?_,?_,alloc_num,store_num _,trivial⟩ ?_
  ·intro ts W hb hB hp K hK
   simp only [fillT,zA,Nat.reduceAdd,sA,sB,sC] at hK ⊢
   have HK:=hid hK
   clear hK hp
   refine ⟨?_⟩
   go_simp
   exact HK.out _ _ rfl rfB
  ·intro ts W hb hB hp
   have h0:ts 0 = _:=hp 0 kR
   intro K hK
   simp only [fillT,zA,Nat.reduceAdd,sA,sB,sC,h0] at hK ⊢
   have HK:=hid hK
   clear hK hp
   refine ⟨?_⟩
   go_simp
   exact HK.out _ _ rfl rfB
  ·intro ts W hb hB hp
   have h1:ts 1 = _:=hp 1 kR
   intro K hK
   simp only [fillT,zA,Nat.reduceAdd,sA,sB,sC,h1] at hK ⊢
   have HK:=hid hK
   clear hK hp
   have hcell:=(H.out.below hb).cell hn
   refine ⟨?_⟩
   go_simp
   exact HK.out _ _ rfl rfB
  ·intro ts W hb hB hp
   have h2:ts 2 = _:=hp 2 kR
   intro K hK
   simp only [fillT,zA,Nat.reduceAdd,sA,sB,sC,h2] at hK ⊢
   have HK:=hid hK
   clear hK hp
   refine ⟨?_⟩
   go_simp
   exact HK.out _ _ rfl rfB
  ·intro ts W hb hB hp
   have h3:ts 3 = _:=hp 3 kR
   intro K hK
   simp only [fillT,zA,Nat.reduceAdd,sA,sB,sC,h3] at hK ⊢
   have HK:=hid hK
   clear hK hp
   refine ⟨?_⟩
   refine wp_load_elem (k:=0) rfl rfl ((H.out.row hn).below hb) hn (fun v hv=>HK.out _ _ hv rfB)
  intro ts W5 hb5 hh hap
  obtain ⟨g7,A7,n7,c7,p7,A7b,n7b,c7b,p7b,A7c,n7c,c7c,e5,lo7,z7,X7,N7⟩:=held_box (x:=G 0 0) (hh 5 sP) rfl (hh 6 sP) rfl (hh 4 sP) rfl
  simp only [fillT,zA,Nat.reduceAdd,sA,sB,sC,e5]
  clear hh hap e5
  generalize ts 0 = u0_W5 at *
  generalize ts 1 = u1_W5 at *
  generalize ts 2 = u2_W5 at *
  generalize ts 3 = u3_W5 at *
  generalize ts 4 = u4_W5 at *
  clear ts
  have HX5:=hid ((hb5.block w.heap.size oM).trans HX4.out)
  have B5:=bT B4 hb5
  have hzz:w.heap.size + 1 < W5.heap.size:=lL z5 hb5.size
  have hg72:w.heap.size ≠ g7:=oM
  have hgg:∀ a,a < st -> i4 a ≠ g7:=fun a ha=>by have:=(H.out.row ha).lt; omega
  have H5:=hid (H.out.below hb5)
  have HX7:=hid X7
  have HB5:=hid B5
  have hg7w:w.heap.size + 1 < g7:=oM
  have hg27:g2 ≠ g7:=by have:=H.out.lt; omega
  clear hb5 HX4 B4 z5 lo7 z7 X7 B5
  go_wp2
  go_loopw [8] (fun j wr=>∃ k:Nat,j = .int .i64 ((k:Int) + 1) /\ k < st /\ MatAt wr g2 i4 st st G /\ wr.heap[w.heap.size]? = some (.cells zNum 35 (0,0)) /\ BoxNum wr g7 (prodD G k) /\ Below w.heap.size w wr) (fun j _=>st + 1 - (intOf j).toNat)
  case atStart=>exact ⟨0,rfl,hn',H5.out,HX5.out,.mk HX7.out N7,HB5.out⟩
  case round =>
   obtain ⟨k,rfl,hk,hM,X2,⟨A7,n7,c7,p7,A7b,n7b,c7b,p7b,A7c,n7c,c7c,X7,N7⟩,hB⟩:=hrel
   have hBr:w.heap.size <= wr.heap.size:=hB.size
   have z7:g7 < wr.heap.size:=heap_ge_none X7
   have H:=hid hM
   have KB:=hid hB
   have HX2:=hid X2
   clear hM hB X2
   by_cases hlt:k + 1 < st
   ·have hpk:=Sz.prodD HSG.out k hk
    have hpk2:(k + 1) * (S + 1) + S + 1 < 549755813888:=by
     have:(k + 1) * (S + 1) <= 32 * (S + 1):=Nat.mul_le_mul_right _ oM
     omega
    have hl1:(k:Int) + 1 < (st:Int):=oM
    go_upto_region 16 with fail
    refine region_last [.val (kIs (.agg #[.slice A7 n7 c7,.bool p7,.slice A7b n7b c7b,.bool p7b,.slice A7c n7c c7c])),.val (kIfc (prodD G k)),.val (kIs (.slice (some ⟨g2,0,none⟩) st st)),.val (kIs (.int .i64 ((k + 1):Int))),.val (kIs (.pointer (some ⟨g2,(k + 1),none⟩))),.val (kIs (.slice (some ⟨i4 (k + 1),0,none⟩) st st)),.val (kIs (.int .i64 ((k + 1):Int))),.val (kIs (.pointer (some ⟨(i4 (k + 1)),5 * (k + 1),none⟩))),.val (kNum (G (k + 1) (k + 1))),.val (kNum ((prodD G k).mul (G (k + 1) (k + 1))))]
     kR kR kR kR kR ⟨Stab.b (stab_is _),Stab.b (stab_ifc _),Stab.b (stab_is _),Stab.b (stab_is _),Stab.b (stab_is _),Stab.b (stab_is _),Stab.b (stab_is _),Stab.b (stab_is _),Stab.b (stab_num _),Stab.b (stab_num _),trivial⟩ sP (ol:=_) rfl kR ⟨?_,?_,?_,?_,?_,?_,?_,?_,?_,?_,trivial⟩ ?_
    ·intro ts W hb hB hp K hK
     simp only [fillT,zA,Nat.reduceAdd,sA,sB,sC] at hK ⊢
     refine ⟨?_⟩
     refine wp_load_row _ _ rfl (g7) rfl _ _ (0,0) _ ((hb.block _ (z7)).trans X7) Tryz.underlying35 rfl kR ?_
     exact hK _ _ rfl rfB
    ·intro ts W hb hB hp
     have h0:ts 0 = _:=hp 0 kR
     intro K hK
     simp only [fillT,zA,Nat.reduceAdd,sA,sB,sC,h0] at hK ⊢
     have HK:=hid hK
     clear hK hp
     refine ⟨?_⟩
     go_simp
     exact HK.out _ _ ⟨_,rfl,N7.below hb⟩ rfB
    ·intro ts W hb hB hp K hK
     simp only [fillT,zA,Nat.reduceAdd,sA,sB,sC] at hK ⊢
     have HK:=hid hK
     clear hK hp
     refine ⟨?_⟩
     go_simp
     exact HK.out _ _ rfl rfB
    ·intro ts W hb hB hp K hK
     simp only [fillT,zA,Nat.reduceAdd,sA,sB,sC] at hK ⊢
     have HK:=hid hK
     clear hK hp
     refine ⟨?_⟩
     go_simp
     exact HK.out _ _ rfl rfB
    ·intro ts W hb hB hp
     have h2:ts 2 = _:=hp 2 kR
     have h3:ts 3 = _:=hp 3 kR
     intro K hK
     simp only [fillT,zA,Nat.reduceAdd,sA,sB,sC,h2,h3] at hK ⊢
     have HK:=hid hK
     clear hK hp
     refine ⟨?_⟩
     go_simp
     exact HK.out _ _ rfl rfB
    ·intro ts W hb hB hp
     have h4:ts 4 = _:=hp 4 kR
     intro K hK
     simp only [fillT,zA,Nat.reduceAdd,sA,sB,sC,h4] at hK ⊢
     have HK:=hid hK
     clear hK hp
     have hcell:=(H.out.below hb).cell hlt
     refine ⟨?_⟩
     go_simp
     exact HK.out _ _ rfl rfB
    ·intro ts W hb hB hp K hK
     simp only [fillT,zA,Nat.reduceAdd,sA,sB,sC] at hK ⊢
     have HK:=hid hK
     clear hK hp
     refine ⟨?_⟩
     go_simp
     exact HK.out _ _ rfl rfB
    ·intro ts W hb hB hp
     have h5:ts 5 = _:=hp 5 kR
     have h6:ts 6 = _:=hp 6 kR
     intro K hK
     simp only [fillT,zA,Nat.reduceAdd,sA,sB,sC,h5,h6] at hK ⊢
     have HK:=hid hK
     clear hK hp
     refine ⟨?_⟩
     go_simp
     exact HK.out _ _ (by simp [kIs,Nat.mul_comm]) rfB
    ·intro ts W hb hB hp
     have h7:ts 7 = _:=hp 7 kR
     intro K hK
     simp only [fillT,zA,Nat.reduceAdd,sA,sB,sC,h7] at hK ⊢
     have HK:=hid hK
     clear hK hp
     refine ⟨?_⟩
     refine wp_load_elem rfl rfl ((H.out.row hlt).below hb) hlt (fun v hv=>HK.out _ _ (hv) rfB)
    ·intro ts W hb hB hp
     have h1:=hp 1 kR
     have h8:IsNum W (ts 8) (G (k + 1) (k + 1)):=hp 8 kR
     intro K hK
     simp only [fillT,zA,Nat.reduceAdd,sA,sB,sC] at hK ⊢
     have HK:=hid hK
     clear hK hp
     obtain ⟨u1,e1,n1⟩:=h1
     refine ⟨?_⟩
     refine wp_invoke rfl (T:=35) (v:=u1) (xs:=#[u1,ts 8]) e1 inv_Mul (by simp [Act.eval]) ?_
     refine (mulN_any u1 (ts 8) (prodD G k) (G (k + 1) (k + 1)) W n1 h8 ((k + 1) * (S + 1)) S hpk (HSG.out _ _ hlt hlt) hpk2 (HT.out.below (bT KB.out hb))).mono ?_
     rintro e W9 ⟨r9,rfl,hr9,hb9⟩
     exact HK.out _ _ hr9 hb9
    intro ts W3 hb3 hh hap K hK
    have h9:IsNum W3 (ts 9) ((prodD G k).mul (G (k + 1) (k + 1))):=held_num (hh 9 sP) rfl
    obtain ⟨A8,n8,c8,p8,A8b,n8b,c8b,p8b,A8c,n8c,c8c,ia,ib,id,hq,-⟩:=h9.parts
    have Y7:=(hb3.block g7 z7).trans X7
    have HK:=hid hK
    simp only [fillT,zA,Nat.reduceAdd,sA,sB,sC,hq]
    rw [hq] at h9
    clear hh hap hq hK
    refine ⟨?_⟩
    refine wp_store_row _ _ _ rfl g7 _ rfl rfl _ _ Y7 kR rfl (by simp [Value.oneCell']) (HK.out _ _ ?_)
    have hput:=putAt_setRow (cs:=#[.slice A8 n8 c8,.bool p8,.slice A8b n8b c8b,.bool p8b,.slice A8c n8c c8c]) Y7
    have hext:=hput.ext Y7 rfl
    have X8:=hput.here
    have N8:=h9.ext hext
    have hbut:But W3 (W3.setRow g7 #[.slice A8 n8 c8,.bool p8,.slice A8b n8b c8b,.bool p8b,.slice A8c n8c c8c]) g7:=But.setRow _ _ _
    generalize W3.setRow g7 #[.slice A8 n8 c8,.bool p8,.slice A8b n8b c8b,.bool p8b,.slice A8c n8c c8c] = W4 at *
    have M4:=hid (MatAt.butBox (H.out.below hb3) hbut hext hg27 (fun a ha=>hgg a ha))
    have X24:=hid ((hbut.other w.heap.size hg72).trans ((hb3.block w.heap.size oM).trans HX2.out))
    have B24:=hid (hbut.below (bT KB.out hb3) oM)
    have X84:=hid X8
    clear hput hext hbut X8 h9 Y7 hb3 X7 N7 z7
    go_wp2
    go_roundw
    case rel=>exact ⟨k + 1,by go_num,hlt,M4.out,X24.out,.mk X84.out N8,B24.out⟩
    case measure=>exact mS
   ·obtain rfl:st = k + 1:=oM
    have hl1:¬ ((k:Int) + 1 < ((k + 1:Nat):Int)):=oM
    have hx0:(0:Int) <= (ex:Int):=oM
    by_cases hpar:ex % 2 = 1
    ·have HD:=hid (show detF (k + 1) F = (prodD G k).neg by rw [HR.out,detR,if_neg (Nat.lt_irrefl _),if_pos hpar]; rfl)
     have hx1:((ex:Int) % 2 == 1) = true:=sO
     clear hpar
     go_upto_region 18 with fail
     refine region_last [.val (kIs (.agg #[.slice A7 n7 c7,.bool p7,.slice A7b n7b c7b,.bool p7b,.slice A7c n7c c7c])),.val (kIfc (prodD G k)),.val (kNum ((prodD G k).neg))]
      kR kR kR kR kR ⟨Stab.b (stab_is _),Stab.b (stab_ifc _),Stab.b (stab_num _),trivial⟩ sP (ol:=_) rfl kR ⟨?_,?_,?_,trivial⟩ ?_
     ·intro ts W hb hB hp K hK
      simp only [fillT,zA,Nat.reduceAdd,sA,sB,sC] at hK ⊢
      refine ⟨?_⟩
      refine wp_load_row _ _ rfl (g7) rfl _ _ (0,0) _ ((hb.block _ (z7)).trans X7) Tryz.underlying35 rfl kR ?_
      exact hK _ _ rfl rfB
     ·intro ts W hb hB hp
      have h0:ts 0 = _:=hp 0 kR
      intro K hK
      simp only [fillT,zA,Nat.reduceAdd,sA,sB,sC,h0] at hK ⊢
      have HK:=hid hK
      clear hK hp
      refine ⟨?_⟩
      go_simp
      exact HK.out _ _ ⟨_,rfl,N7.below hb⟩ rfB
     ·intro ts W hb hB hp
      have h1:=hp 1 kR
      intro K hK
      simp only [fillT,zA,Nat.reduceAdd,sA,sB,sC] at hK ⊢
      have HK:=hid hK
      clear hK hp
      obtain ⟨u1,e1,n1⟩:=h1
      refine ⟨?_⟩
      refine wp_invoke rfl (T:=35) (v:=u1) (xs:=#[u1]) e1 inv_Neg (by simp [Act.eval]) ?_
      refine (negN_any u1 (prodD G k) W n1).mono ?_
      rintro e W9 ⟨r9,rfl,hr9,hb9⟩
      exact HK.out _ _ hr9 hb9
     intro ts W3 hb3 hh hap K hK
     have h2:IsNum W3 (ts 2) ((prodD G k).neg):=held_num (hh 2 sP) rfl
     obtain ⟨A8,n8,c8,p8,A8b,n8b,c8b,p8b,A8c,n8c,c8c,ia,ib,id,hq,-⟩:=h2.parts
     have Y7:=(hb3.block g7 z7).trans X7
     have HK:=hid hK
     simp only [fillT,zA,Nat.reduceAdd,sA,sB,sC,hq]
     rw [hq] at h2
     clear hh hap hq hK
     refine ⟨?_⟩
     refine wp_store_row _ _ _ rfl g7 _ rfl rfl _ _ Y7 kR rfl (by simp [Value.oneCell']) (HK.out _ _ ?_)
     have hput:=putAt_setRow (cs:=#[.slice A8 n8 c8,.bool p8,.slice A8b n8b c8b,.bool p8b,.slice A8c n8c c8c]) Y7
     have hext:=hput.ext Y7 rfl
     have X8:=hput.here
     have N8:=h2.ext hext
     have hbut:But W3 (W3.setRow g7 #[.slice A8 n8 c8,.bool p8,.slice A8b n8b c8b,.bool p8b,.slice A8c n8c c8c]) g7:=But.setRow _ _ _
     generalize W3.setRow g7 #[.slice A8 n8 c8,.bool p8,.slice A8b n8b c8b,.bool p8b,.slice A8c n8c c8c] = W4 at *
     have X24:=(hbut.other w.heap.size hg72).trans ((hb3.block w.heap.size oM).trans HX2.out)
     have B24:=hid (hbut.below (bT KB.out hb3) oM)
     have N84:=hid N8
     have zz:w.heap.size + 1 < W4.heap.size:=by have:=B24.out.size; have:=heap_ge_none X8; omega
     obtain ⟨d0,d1,d2,d3,d4,e0,e1,e2,e3,e4⟩:=bx5 X8
     obtain ⟨f0,f1,f2,f3,f4,y0,y1,y2,y3,y4⟩:=bx5 X24
     have NB:=NumBox.nil f0 f1 f2 f3 f4
     clear hput hext hbut X8 X24 h2 Y7 hb3 X7 N7 z7 N8 hx1
     go_wp2
     refine bodyPost_ret (v:=.tuple #[.agg #[.slice A8 n8 c8,.bool p8,.slice A8b n8b c8b,.bool p8b,.slice A8c n8c c8c],.int .i64 0]) (by simp [results,Tryz.results10]; exact run_load5e NB _ _ _ _ _ _) rfl ?_
     rw [HD.out]
     exact RetNumE.box B24.out oM NB N84.out _ _ _ _ _
    ·have HD:=hid (show detF (k + 1) F = prodD G k by rw [HR.out,detR,if_neg (Nat.lt_irrefl _),if_neg hpar]; rfl)
     have hx1:((ex:Int) % 2 == 1) = false:=sO
     clear hpar
     have N84:=hid N7
     obtain ⟨d0,d1,d2,d3,d4,e0,e1,e2,e3,e4⟩:=bx5 X7
     obtain ⟨f0,f1,f2,f3,f4,y0,y1,y2,y3,y4⟩:=bx5 HX2.out
     have NB:=NumBox.nil f0 f1 f2 f3 f4
     clear X7 N7
     go_wp2
     refine bodyPost_ret (v:=.tuple #[.agg #[.slice A7 n7 c7,.bool p7,.slice A7b n7b c7b,.bool p7b,.slice A7c n7c c7c],.int .i64 0]) (by simp [results,Tryz.results10]; exact run_load5e NB _ _ _ _ _ _) rfl ?_
     rw [HD.out]
     exact RetNumE.box KB.out oM NB N84.out _ _ _ _ _
theorem build2_run (W:World) (a0 a1 a2 a3 a4 b0 b1 b2 b3 b4:Value):(Instr.buildSlice 46 2 #[(0,.agg #[a0,a1,a2,a3,a4]),(1,.agg #[b0,b1,b2,b3,b4])]).run Tryz.prog W =
  .ok (.slice (some ⟨W.heap.size,0,none⟩) 2 2) (W.alloc (.cells #[a0,a1,a2,a3,a4,b0,b1,b2,b3,b4] 35 (0,0))):=kR
theorem buildM2_run (W:World) (A B:Option Addr) (n m c d:Nat):(Instr.buildSlice 26 2 #[(0,.slice A n c),(1,.slice B m d)]).run Tryz.prog W =
  .ok (.slice (some ⟨W.heap.size,0,none⟩) 2 2) (W.alloc (.cells #[.slice A n c,.slice B m d] 46 (0,0))):=kR
def row2 (x y:Cx):Nat -> Cx:=fun j=>if j = 0 then x else y
theorem build2 (W:World) (v u:Value) (x y:Cx) (h:IsNum W v x) (h':IsNum W u y):∃ W',(Instr.buildSlice 46 2 #[(0,v),(1,u)]).run Tryz.prog W = .ok (.slice (some ⟨W.heap.size,0,none⟩) 2 2) W' /\
  Below W.heap.size W W' /\ NBlk W' W.heap.size 2 (row2 x y):=by
 obtain ⟨A,n,c,p,A',n',c',p',A'',n'',c'',-,-,-,rfl,-⟩:=h.parts
 obtain ⟨B,m,d,q,B',m',d',q',B'',m'',d'',-,-,-,rfl,-⟩:=h'.parts
 have hb:Below W.heap.size W (W.alloc (.cells #[.slice A n c,.bool p,.slice A' n' c',.bool p',.slice A'' n'' c'',.slice B m d,.bool q,.slice B' m' d',.bool q',.slice B'' m'' d''] 35 (0,0))):=below_alloc _ _
 refine ⟨_,build2_run W _ _ _ _ _ _ _ _ _ _,hb,_,heap_alloc_new _ _,rfl,by simp [Value.oneCell'],fun j hj=>?_⟩
 have hj2:j = 0 ∨ j = 1:=oM
 rcases hj2 with rfl | rfl
 ·exact ⟨A,A',A'',p,p',n,c,n',c',n'',c'',rfl,rfl,rfl,rfl,rfl,h.below hb⟩
 ·exact ⟨B,B',B'',q,q',m,d,m',d',m'',d'',rfl,rfl,rfl,rfl,rfl,h'.below hb⟩
end Go.Proofs.YtffegeaflohfhaaGreatDoor
