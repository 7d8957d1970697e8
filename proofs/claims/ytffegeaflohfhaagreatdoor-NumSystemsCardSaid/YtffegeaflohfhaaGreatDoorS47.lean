import Derived.Test.YtffegeaflohfhaaGreatDoorS46
import Derived.Test.YtffegeaflohfhaaGreatDoorS02
set_option linter.unusedVariables false
set_option linter.unusedSimpArgs false
set_option maxRecDepth 100000
set_option maxHeartbeats 8000000
namespace Go.Proofs.YtffegeaflohfhaaGreatDoor
open Go.RowKit
def gjP (F:Nat -> Nat -> Cx) (c a k:Nat):Nat -> Nat -> Cx:=fun x b=>if x ≠ c /\ c <= b /\ (x < a ∨ x = a /\ b < k) then (F x b).sub (((F x c).div (F c c)).mul (F c b)) else F x b
theorem gjP_start (F:Nat -> Nat -> Cx) (c:Nat):gjP F c 0 c = F:=by
 funext x b
 unfold gjP
 rw [if_neg oM]
theorem gjP_row (F:Nat -> Nat -> Cx) (c a k b:Nat):gjP F c a k c b = F c b:=by
 unfold gjP
 rw [if_neg oM]
theorem gjP_here (F:Nat -> Nat -> Cx) (c a k:Nat):gjP F c a k a k = F a k:=by
 unfold gjP
 rw [if_neg oM]
theorem gjP_next (F:Nat -> Nat -> Cx) (c a k:Nat) (hr:a ≠ c) (hc:c <= k):upf (gjP F c a k) a (upf (gjP F c a k a) k ((F a k).sub (((F a c).div (F c c)).mul (F c k)))) = gjP F c a (k + 1):=by
 funext x b
 by_cases hx:x = a
 ·subst hx
  rw [upf_same]
  by_cases hb:b = k
  ·subst hb
   rw [upf_same]
   unfold gjP
   rw [if_pos oM]
  ·rw [upf_other _ _ hb]
   unfold gjP
   by_cases h:x ≠ c /\ c <= b /\ (x < x ∨ x = x /\ b < k)
   ·rw [if_pos h,if_pos oM]
   ·rw [if_neg h,if_neg oM]
 ·rw [upf_other _ _ hx]
  unfold gjP
  by_cases h:x ≠ c /\ c <= b /\ (x < a ∨ x = a /\ b < k)
  ·rw [if_pos h,if_pos oM]
  ·rw [if_neg h,if_neg oM]
theorem gjP_shut (F:Nat -> Nat -> Cx) (c a m:Nat):∀ x b,b < m -> gjP F c a m x b = gjP F c (a + 1) c x b:=fun x b hb=>by
 unfold gjP
 by_cases h:x ≠ c /\ c <= b /\ (x < a ∨ x = a /\ b < m)
 ·rw [if_pos h,if_pos oM]
 ·rw [if_neg h,if_neg oM]
theorem gjP_skip (F:Nat -> Nat -> Cx) (c:Nat):gjP F c c c = gjP F c (c + 1) c:=by
 funext x b
 unfold gjP
 by_cases h:x ≠ c /\ c <= b /\ (x < c ∨ x = c /\ b < c)
 ·rw [if_pos h,if_pos oM]
 ·rw [if_neg h,if_neg oM]
theorem gjP_all (F:Nat -> Nat -> Cx) (c n:Nat):gjP F c n c = gjC F c n:=by
 funext x b
 unfold gjP gjC
 by_cases h:x ≠ c /\ x < n /\ c <= b
 ·rw [if_pos h,if_pos oM]
 ·rw [if_neg h,if_neg oM]
theorem sz_gjC {F:Nat -> Nat -> Cx} {n m c s:Nat} (hS:∀ a b,a < n -> b < m -> Sz (F a b) s) (hr:c < n) (hc:c < m):∀ x b,x < n -> b < m -> Sz (gjC F c n x b) (5 * s + 4):=fun x b hx hb=>by
 unfold gjC
 split
 ·exact ((hS x b hx hb).sub (((hS x c hx hc).div (hS c c hr hc)).mul (hS c b hr hb))).mono oM
 ·exact (hS x b hx hb).mono oM
def augQ (n:Nat) (F:Nat -> Nat -> Cx) (b:Nat -> Cx):Nat -> Nat -> Cx:=fun i j=>if j < n then F i j else b i
theorem RowsQ.len {B:Nat} {W:World} {go:Nat} {gi li li' ci:Nat -> Nat} {n k:Nat} {V:Nat -> Nat -> Prop} {F:Nat -> Nat -> Cx} (h:RowsQ B W go gi li ci n k V F) (hl:∀ i,i < k -> li i = li' i):RowsQ B W go gi li' ci n k V F:=by
 obtain ⟨cs,c1,c2,c3,c4⟩:=h.cells
 exact ⟨h.sep,h.kn,⟨cs,c1,c2,fun i hi=>by rw [<- hl i hi]; exact c3 i hi,c4⟩,h.rows⟩
def RetSol (w:World) (n:Nat) (R:Bool × (Nat -> Nat -> Cx)) (e:Ending) (w':World):Prop :=
 Below w.heap.size w w' /\ ((R.1 = true /\ ∃ g,w.heap.size <= g /\ e = .returned (.tuple #[.slice (some ⟨g,0,none⟩) n n,.int .i64 0]) /\ QBlk w' g n (fun _=>True) (fun i=>(R.2 i n).div (R.2 i i))) ∨
  (R.1 = false /\ e = .returned (.tuple #[.slice none 0 0,.int .i64 6])))
theorem rSolve_any (w:World) (ga gb:Nat) (gi:Nat -> Nat) (n cap capb s:Nat) (F:Nat -> Nat -> Cx) (b:Nat -> Cx) (h:MatQ w ga gi n n F) (hb:QBlk w gb n (fun _=>True) b) (hn:n <= 32) (hS:∀ x y,x < n -> y < n + 1 -> Sz (augQ n F b x y) s) (h5:szE s (n + 1) < 549755813888) :
  Calls Tryz.prog 15 #[.slice (some ⟨ga,0,none⟩) n cap,.slice (some ⟨gb,0,none⟩) n capb] w (RetSol w n (gjS n n 0 (augQ n F b))):=by
 have HSQ:=hid (rSquare_any w _ n _ F (h.qss cap) oM fun _ _=>oM)
 have HCP:=hid (fun W (hb:Below w.heap.size w W)=>rCopy_any W ga gi n n cap F (h.below hb) oM oM)
 have HV3:=hid (vld_mat hn hn)
 have HS0:=hid hS
 have HGB:=hid hb
 obtain ⟨A,hA⟩:∃ A,A = augQ n F b:=⟨_,rfl⟩
 rw [<- hA] at HS0 ⊢
 have HAe:=hid hA
 obtain ⟨E,hE⟩:∃ E,E = gjS n n 0 A:=⟨_,rfl⟩
 rw [<- hE]
 have HE0:=hid hE
 obtain ⟨m,hm1,hm2⟩:∃ m:Nat,m <= n + 1 /\ n + 1 <= m:=⟨n + 1,oM,oM⟩
 have hnm:n < m:=oM
 have hne0:((n:Int) != (n:Int)) = false:=sP
 clear h hb hS hA hE
 go_enter Tryz.func15,Tryz.ntmps15
 go_wp2_with fail
 refine HSQ.out.mono ?_
 rintro e W2 ⟨bb,rfl,hb,hB⟩
 obtain rfl:bb = true:=hb.2 ⟨HV3.out,by split <;> first | assumption | rfl⟩
 have K2:=hid hB
 clear hb hB HSQ HV3
 go_wp2_with fail
 refine (HCP.out _ K2.out).mono ?_
 rintro e W3 ⟨go,g0,c0,rfl,hL,hC,hB⟩
 have HL0:=hid (show RowsQ W2.heap.size W3 go g0 (fun j=>if j < 0 then n + 1 else n) c0 n n (fun j k=>k < if j < 0 then n + 1 else n) A from (hL.len fun i hi=>sP).to fun i j hi hj hv=>by
  simp at hv
  exact ⟨hv,by rw [HAe.out]; exact (if_pos hv).symm⟩)
 have HC0:=hid (show ∀ i,i < n -> (if i < 0 then n + 1 else n) <= c0 i from fun i hi=>by simpa using hC i hi)
 have K3:=hid (bT K2.out hB)
 clear hL hC hB HCP
 go_wp2_with fail
 go_loopw [8] (fun iv wx=>∃ (i:Nat) (gk ck:Nat -> Nat),iv = .int .i64 (i:Int) /\ i <= n /\ RowsQ W2.heap.size wx go gk (fun j=>if j < i then n + 1 else n) ck n n (fun j k=>k < if j < i then n + 1 else n) A /\ (∀ j,j < n -> (if j < i then n + 1 else n) <= ck j) /\ Below w.heap.size w wx) (fun iv _=>n - (intOf iv).toNat)
 case atStart=>exact ⟨0,g0,c0,rfl,oM,HL0.out,HC0.out,K3.out⟩
 case round =>
  obtain ⟨i,gk,ck,rfl,hin,hL,hC,hB⟩:=hrel
  have HL1:=hid hL
  have HC1:=hid hC
  have KB1:=hid hB
  clear hL hC hB HL0 HC0 K3
  by_cases hi:i < n
  ·have hgk:=(HL1.out.rows i hi).lt
   have hgo:=HL1.out.lt
   have hgw:w.heap.size <= go:=Nat.le_trans K2.out.size HL1.out.sep.lo
   have hgbw:gb < w.heap.size:=HGB.out.lt
   have hkw:w.heap.size <= gk i:=Nat.le_trans K2.out.size (HL1.out.sep.los i hi)
   have hkg:gk i ≠ go:=HL1.out.sep.ne i hi
   have hA1:A i n = b i:=by rw [HAe.out]; exact if_neg oM
   have HAI:=hid (show upf (A i) n (b i) = A i by
    funext j
    by_cases e:j = n
    ·rw [e,upf_same,hA1]
    ·rw [upf_other _ _ e])
   have HCI:=hid (show n <= ck i by have:=HC1.out i hi; simpa using this)
   have HQI:=hid (show QBlk wr (gk i) (ck i) (fun j=>j < n) (A i) from (HL1.out.rows i hi).to fun j _ hj=>⟨by simpa using hj,rfl⟩)
   have HRI:=hid (show RowsQ W2.heap.size wr go gk (fun j=>if j < i then n + 1 else n) ck n n (fun j k=>j ≠ i /\ k < if j < i then n + 1 else n) A from HL1.out.to fun j k _ _ h=>⟨h.2,rfl⟩)
   have hce:=HL1.out.cell hi
   simp only [Nat.lt_irrefl,if_false] at hce
   have HCE:=hid hce
   have HGBr:=hid (HGB.out.below KB1.out)
   clear hce hA1
   go_upto_region 8 with fail
   have i1:(i:Int) < (n:Int):=oM
   have i0:(0:Int) <= (i:Int):=oM
   refine region_freeL (fun W=>wr.heap.size <= W.heap.size /\ Below w.heap.size w W) (p8 go (gk i) gb i n (ck i) capb wr.heap.size (b i) (A i) (fun W=>∃ gk' ck',RowsQ W2.heap.size W go gk' (fun j=>if j < i + 1 then n + 1 else n) ck' n n (fun j k=>k < if j < i + 1 then n + 1 else n) A /\ ∀ j,j < n -> (if j < i + 1 then n + 1 else n) <= ck' j)) (m8 go (gk i) gb i n (ck i) (A i) b (fun W=>RowsQ W2.heap.size W go gk (fun j=>if j < i then n + 1 else n) ck n n (fun j k=>j ≠ i /\ k < if j < i then n + 1 else n) A)) (r8 go (gk i) (ck i) (A i)) ?fl8 ?hfl8
    kR kR kR kR kR ?_ (fun k j v W W' hkj hp _ hr h=>p8_keeps hgk hgo hkg (fun _ _ hb ⟨g,c,h,h'⟩=>⟨g,c,h.below hb,h'⟩) kR k j v W W' hkj hp hr h) (fun k j W W' hkj hp hI hr h=>m8_keeps hgk hgo hkg oM oM (fun _ _ hb h=>h.below hb) (fun _ _ ht hq h=>h.tn ht hi (fun _ e=>e.1 rfl) hq) (fun W h=>oM) kR k j W W' hI.1 hkj hp hr h) ?_ ⟨?_,?_,?_,?_,?_,?_,?_,?_,?_,?_,?_,?_,?_,?_,trivial⟩ ?_
   case hfl8=>intro ts; simp only [fillT,zA,Nat.reduceAdd,sA,sB,sC]; rfl
   ·intro W hW
    have hbW:Below wr.heap.size wr W:=by
     rcases hW with rfl | rfl
     ·exact Below.refl _ _
     ·exact rfB.drew
    exact ⟨⟨hbW.size,bT KB1.out hbW⟩,m8_start ((hbW.cell (p:=⟨go,i,none⟩) hgo).trans HCE.out) (HGBr.out.below hbW) (HQI.out.below hbW) (HRI.out.below hbW)⟩
   ·rintro k W W' hr ⟨h1,h2⟩
    obtain ⟨g,hg,ht⟩:=hr.any
    exact ⟨Nat.le_trans h1 ht.2.1,ht.2.2.2 _ _ h2 (by rcases hg with rfl | rfl <;> assumption) h2.size⟩
   ·intro ts W hI hm hp K hK; dsimp only at hK ⊢; exact ⟨wp_move rfl rfl (hK _ _ rfl (r8_of oM oM rfB))⟩
   ·intro ts W hI hm hp K hK; dsimp only at hK ⊢; exact ⟨wp_move rfl rfl (hK _ _ rfl (r8_of oM oM rfB))⟩
   ·intro ts W hI hm hp K hK; dsimp only at hK ⊢; exact ⟨wp_move rfl rfl (hK _ _ rfl (r8_of oM oM rfB))⟩
   ·intro ts W hI hm hp K hK; dsimp only at hK ⊢; exact ⟨wp_move rfl rfl (hK _ _ rfl (r8_of oM oM rfB))⟩
   ·intro ts W hI hm hp K hK; have h2:ts 2 = _:=hp 2 kR; have h3:ts 3 = _:=hp 3 kR; dsimp only at hK ⊢; simp only [h2,h3] at hK ⊢; have HK:=hid hK; clear hK hp hm; refine ⟨?_⟩; go_simp; exact HK.out _ _ (by simp [p8,Nat.mul_comm]) (r8_of oM oM rfB)
   ·intro ts W hI hm hp K hK; have h4:ts 4 = _:=hp 4 kR; have hc:W.cell? ⟨go,i,none⟩ = some _:=hm; dsimp only at hK ⊢; simp only [h4] at hK ⊢; have HK:=hid hK; clear hK hp hm; refine ⟨?_⟩; go_simp; exact HK.out _ _ rfl (r8_of oM oM rfB)
   ·intro ts W hI hm hp K hK; dsimp only at hK ⊢; exact ⟨wp_move rfl rfl (hK _ _ rfl (r8_of oM oM rfB))⟩
   ·intro ts W hI hm hp K hK; dsimp only at hK ⊢; exact ⟨wp_move rfl rfl (hK _ _ rfl (r8_of oM oM rfB))⟩
   ·intro ts W hI hm hp K hK; have h6:ts 6 = _:=hp 6 kR; have h7:ts 7 = _:=hp 7 kR; dsimp only at hK ⊢; simp only [h6,h7] at hK ⊢; have HK:=hid hK; clear hK hp hm; refine ⟨?_⟩; go_simp; exact HK.out _ _ (by simp [p8,Nat.mul_comm]) (r8_of oM oM rfB)
   ·intro ts W hI hm hp K hK; dsimp only at hK ⊢; exact ⟨wp_load_qe (k:=i) rfl (show ts 8 = _ from hp 8 kR) (show QBlk W gb n (fun _=>True) b from hm) hi trivial fun v hv=>hK v W hv (r8_of oM oM rfB)⟩
   ·intro ts W hI hm hp K hK; have h9:IsQ W (ts 9) (b i):=hp 9 kR; obtain ⟨W8,g1,hr8,hb8,hg8,hq8⟩:=one_q h9 hI.1; dsimp only at hK ⊢; exact ⟨wp_buildSlice rfl (by simp [Act.eval]) hr8 (hK _ _ ⟨g1,rfl,hg8,hq8⟩ (r8_of oM oM hb8))⟩
   ·intro ts W hI hm hp K hK
    have h5:ts 5 = _:=hp 5 kR
    obtain ⟨g1,e1,hg1,hq1⟩:∃ g1,ts 10 = .slice (some ⟨g1,0,none⟩) 1 1 /\ wr.heap.size <= g1 /\ QBlk W g1 1 (fun _=>True) (fun _=>b i):=hp 10 kR
    have hm':QBlk W (gk i) (ck i) (fun j=>j < n) (A i):=hm
    obtain ⟨W8,gN,c',hap,hor,hc',hQ⟩:=row_more (c1:=1) hm' HCI.out oM hq1
    rw [HAI.out] at hQ
    dsimp only at hK ⊢
    refine ⟨wp_append rfl (show ts 5 = _ from h5) (show ts 10 = _ from e1) hap (hK _ _ ⟨gN,c',rfl,hc',hQ,?_⟩ ?_)⟩
    ·rcases hor with ⟨e1,e2,-,-⟩ | ⟨e1,-⟩
     ·exact .inl ⟨e1,e2⟩
     ·exact .inr (by rw [e1]; exact hI.1)
    ·unfold r8
     rw [if_pos rfl]
     rcases hor with ⟨rfl,rfl,hb,he⟩ | ⟨-,hb⟩
     ·exact ⟨Tn.but hb he,hQ.to fun _ _ h=>h.elim⟩
     ·exact ⟨Tn.of hb,(hm'.below hb).to fun _ _ h=>h.elim⟩
   ·intro ts W hI hm hp K hK; have h0:ts 0 = _:=hp 0 kR; have h1:ts 1 = _:=hp 1 kR; dsimp only at hK ⊢; simp only [h0,h1] at hK ⊢; have HK:=hid hK; clear hK hp hm; refine ⟨?_⟩; go_simp; exact HK.out _ _ (by simp [p8,Nat.mul_comm]) (r8_of oM oM rfB)
   ·intro ts W hI hm hp K hK
    have h12:ts 12 = _:=hp 12 kR
    obtain ⟨gN,c',e1,hc',hQ,hor⟩:∃ gN c',ts 11 = .slice (some ⟨gN,0,none⟩) (n + 1) c' /\ n + 1 <= c' /\ QBlk W gN c' (fun j=>j < n + 1) (A i) /\ (gN = gk i /\ c' = ck i ∨ wr.heap.size <= gN):=hp 11 kR
    have HM:=hid (show RowsQ W2.heap.size W go gk (fun j=>if j < i then n + 1 else n) ck n n (fun j k=>j ≠ i /\ k < if j < i then n + 1 else n) A from hm)
    have HL:=hid (HM.out.lay (i:=i) (l:=n + 1) (c:=c') (Nat.le_of_lt hi) hi (g:=gN) (U:=fun j=>j < n + 1) (f:=A i) (by rcases hor with ⟨e,-⟩ | e <;> have:=HL1.out.sep.los i hi <;> have:=HL1.out.sep.lo <;> omega) (by rcases hor with ⟨e,-⟩ | e <;> omega) (fun j hj hji e=>by
     rcases hor with ⟨e2,-⟩ | e2
     ·exact hji (HL1.out.sep.inj j i hj hi (e.trans e2))
     ·have:=(HL1.out.rows j hj).lt; omega) hQ)
    have HCU:=hid (HM.out.cut (i:=i) (l:=n + 1) (c:=c') (A:=some ⟨gN,0,none⟩))
    have hce:=HM.out.cell hi
    have hfr:=HM.out.frozen i
    have HCC:=hid hc'
    clear hm hQ hor hc'
    dsimp only at hK ⊢
    simp only [h12,e1] at hK ⊢
    have HK:=hid hK
    clear hK hp
    refine ⟨?_⟩
    go_simp
    refine HK.out undef _ ⟨upf gk i gN,upf ck i c',?_,fun j hj=>?_⟩ ?_
    ·have h:=HL.out
     rw [show max n (i + 1) = n by omega,upf_back] at h
     refine (h.len fun j hj=>?_).to fun j k hj hk hv=>⟨?_,rfl⟩
     ·by_cases e:j = i
      ·rw [e,upf_same]; simp
      ·rw [upf_other _ _ e]
       by_cases h1:j < i
       ·rw [if_pos h1,if_pos oM]
       ·rw [if_neg h1,if_neg oM]
     ·by_cases e:j = i
      ·rw [e,upf_same]; simpa [e] using hv
      ·rw [upf_other _ _ e]
       refine ⟨e,?_⟩
       by_cases h1:j < i
       ·rw [if_pos h1]; rwa [if_pos oM] at hv
       ·rw [if_neg h1]; rwa [if_neg oM] at hv
    ·by_cases e:j = i
     ·rw [e,upf_same]; simpa using HCC.out
     ·rw [upf_other _ _ e]
      have:=HC1.out j hj
      by_cases h1:j < i
      ·rw [if_pos h1] at this; rwa [if_pos oM]
      ·rw [if_neg h1] at this; rwa [if_neg oM]
    ·unfold r8
     rw [if_neg oM,if_pos rfl]
     exact Tn.but HCU.out.1 HCU.out.2
   intro ts W5 hI hp
   obtain ⟨gk',ck',hL5,hC5⟩:∃ gk' ck',RowsQ W2.heap.size W5 go gk' (fun j=>if j < i + 1 then n + 1 else n) ck' n n (fun j k=>k < if j < i + 1 then n + 1 else n) A /\ ∀ j,j < n -> (if j < i + 1 then n + 1 else n) <= ck' j:=hp 13 sP
   have HL5:=hid hL5
   have HC5:=hid hC5
   have KB5:=hid hI.2
   clear hL5 hC5 hp hI HL1 HC1 HQI HRI HCE HGBr
   go_wp2
   go_roundw
   case rel=>exact ⟨i + 1,gk',ck',by go_num,oM,HL5.out,HC5.out,KB5.out⟩
   case measure=>exact mS
  ·obtain rfl:n = i:=oM
   have HL2:=hid (show RowsQ W2.heap.size wr go gk (fun _=>m) ck n n (fun _ k=>k < m) A from (HL1.out.len fun j hj=>by simp [hj]; omega).to fun j k hj hk hv=>⟨by simp [hj]; omega,rfl⟩)
   have HC2:=hid (show ∀ j,j < n -> m <= ck j from fun j hj=>by have:=HC1.out j hj; simp [hj] at this; omega)
   clear HL1 HC1
   go_wp2_with fail
   go_loopw [9] (fun cv wx=>∃ (c:Nat) (gk ck:Nat -> Nat) (G:Nat -> Nat -> Cx),cv = .int .i64 (c:Int) /\ c <= n /\ E = gjS n (n - c) c G /\ Done n c G /\ RowsQ W2.heap.size wx go gk (fun _=>m) ck n n (fun _ j=>j < m) G /\ (∀ i,i < n -> m <= ck i) /\ Below w.heap.size w wx /\ (∀ a b,a < n -> b < m -> Sz (G a b) (szE s c))) (fun cv _=>n - (intOf cv).toNat)
   case atStart=>exact ⟨0,gk,ck,A,rfl,oM,HE0.out,fun j hj=>oM,HL2.out,HC2.out,KB1.out,fun a b ha hb=>HS0.out a b ha oM⟩
   case round =>
    clear HL2 HC2 KB1 HS0 HE0
    obtain ⟨c,gk,ck,G,rfl,hcn0,hE,hD,hL,hC,hB,hS⟩:=hrel
    have HE:=hid hE
    have HD:=hid hD
    have HL:=hid hL
    have HC:=hid hC
    have KB:=hid hB
    have HS:=hid hS
    clear hE hD hL hC hB hS
    by_cases hcn:c < n
    ·have hc:c < m:=oM
     go_wp2_with fail
     go_loopw [10] (fun pv wx=>∃ p:Nat,pv = .int .i64 (p:Int) /\ c <= p /\ p <= n /\ (∀ a,c <= a -> a < p -> G a c = .zero) /\ RowsQ W2.heap.size wx go gk (fun _=>m) ck n n (fun _ j=>j < m) G /\ Below w.heap.size w wx) (fun pv _=>n - (intOf pv).toNat)
     case atStart=>exact ⟨c,rfl,oM,oM,fun a h1 h2=>oM,HL.out,KB.out⟩
     case round =>
      clear HL KB
      obtain ⟨p,rfl,hp1,hp2,hz,hL,hB⟩:=hrel
      have HZS:=hid hz
      have HL:=hid hL
      have KB:=hid hB
      clear hz hL hB
      by_cases hpn:p < n
      ·have HZ:=hid (fun W v (hv:IsQ W v (G p c))=>rZero_any v (G p c) W hv)
       obtain ⟨zb,hzb⟩:∃ zb,zb = decide (G p c = .zero):=⟨_,rfl⟩
       rw [<- hzb] at HZ
       have HZB:=hid hzb
       clear hzb
       go_upto_region 13 with fail
       refine region_litA [.val (kIs (.int .i64 (p:Int))),.val (kIs (.int .i64 (n:Int))),.val (kIs (.bool true)),.val (kIs (.bool true)),.val (kIs (.slice (some ⟨go,0,none⟩) n n)),.val (kIs (.int .i64 (p:Int))),.val (kIs (.pointer (some ⟨go,p,none⟩))),.val (kIs (.slice (some ⟨gk p,0,none⟩) m (ck p))),.val (kIs (.int .i64 (c:Int))),.val (kIs (.pointer (some ⟨gk p,5 * c,none⟩))),.val (kQ (G p c)),.val (kIs (.bool zb)),.val (kIs (.bool zb))]
        ?fl5 ?hfl5 kR kR kR kR kR ⟨Stab.b (stab_is _),Stab.b (stab_is _),Stab.b (stab_is _),Stab.b (stab_is _),Stab.b (stab_is _),Stab.b (stab_is _),Stab.b (stab_is _),Stab.b (stab_is _),Stab.b (stab_is _),Stab.b (stab_is _),Stab.b (stab_q _),Stab.b (stab_is _),Stab.b (stab_is _),trivial⟩ sP ⟨obN (uMf rfl .fr),obN (uMf rfl .fr),obN (uBn rfl (.is 0) (.is 1) fun w=>by simp [go_sem]; omega),obN (uMv 2),obG 3 (uMf rfl .fr),obG 3 (uMf rfl .fr),obG 3 (uIr rfl (.is 4) (.is 5) hpn),obG 3 (uLr' rfl (.is 6) fun W hb=>(HL.out.below hb).cell hpn),obG 3 (uMf rfl .fr),obG 3 (uIq rfl (.is 7) (.is 8) hc),obG 3 (uQe rfl (.is 9) (fun W hb=>(HL.out.below hb).rows _ hpn) (lL hc (HC.out _ hpn)) hc),obG 3 (uC1 rfl (.at 10) fun _ W hb h=>cIs (HZ.out W _ (pg 10 h))),obN (uPt rfl (.is 3) (.is 11)),trivial⟩ ?_
       case hfl5=>intro ts; simp only [fillT,zA,Nat.reduceAdd,sA,sB,sC]; rfl
       intro ts W8 hb8 hh hap
       have e12:=held_is (hh 12 sP) rfl
       simp only [e12]
       clear hh hap e12
       have HL8:=hid (HL.out.below hb8)
       have KB8:=hid (bT KB.out hb8)
       clear HL KB hb8
       cases zb
       ·have hzp:G p c ≠ .zero:=of_decide_eq_false HZB.out.symm
        have hpv:=pivF_is hp1 hpn HZS.out hzp
        have HE2:=hid (show E = gjS n (n - (c + 1)) (c + 1) (gjC (swp G c p) c n) by
         rw [HE.out,show n - c = (n - (c + 1)) + 1 by omega,gjS,if_neg (by rw [hpv]; omega),hpv]; rfl)
        have h02:swp G c p c c ≠ .zero:=by unfold swp; simp only [if_true]; exact hzp
        have H02:=hid h02
        have HD2:=hid ((HD.out.swp hp1 hpn).gj hcn h02)
        have HS2:=hid (sz_swp (p:=p) HS.out hcn hpn)
        have hne:((p:Int) == (n:Int)) = false:=sO
        have x1:=HL8.out.cell hcn
        have x2:=HL8.out.cell hpn
        have y1:=HL8.out.frozen c
        have y2:=HL8.out.frozen p
        have hsz:5 * szE s c + 4 < 549755813888:=by
         have:=szE_mono s (show c + 1 <= n + 1 by omega)
         rw [szE] at this
         omega
        clear hzp hpv h02 HZB HZS HE HD HZ HS
        go_upto_region 17 with fail
        have i1:(c:Int) < (n:Int):=oM
        have i2:(p:Int) < (n:Int):=oM
        have i3:(0:Int) <= (c:Int):=oM
        have x3:(W8.setCell ⟨go,p,none⟩ (.slice (some ⟨gk c,0,none⟩) m (ck c))).cell? ⟨go,c,none⟩ = some (.slice (some ⟨gk c,0,none⟩) m (ck c)):=by
         by_cases e:p = c
         ·rw [e] at x2 ⊢
          exact World.cell?_setCell_same _ _ _ x2
         ·rw [World.cell?_setCell_other _ _ _ _ (by intro h; injection h with _ h; exact e h)]
          exact x1
        go_region
        have HSW:=hid (HL8.out.swap hpn hcn)
        have HM6:=hid (HSW.out.1.below (W':=World.drew _) (rfB.drew))
        have HB6:=hid (KB8.out.trans ((HSW.out.2.drew).mono (by have:=K2.out.size; omega)))
        clear HSW x1 x2 y1 y2 x3
        rw [swp_const,swp_const,swp_comm gk,swp_comm ck,swp_comm G] at HM6
        generalize ((W8.setCell ⟨go,p,none⟩ (.slice (some ⟨gk c,0,none⟩) m (ck c))).setCell ⟨go,c,none⟩ (.slice (some ⟨gk p,0,none⟩) m (ck p))).drew = W6 at *
        have HC2:=hid (show ∀ i,i < n -> m <= swp ck c p i from fun i hi=>by
         unfold swp
         split
         ·exact HC.out p hpn
         ·split
          ·exact HC.out c hcn
          ·exact HC.out i hi)
        clear HL8 KB8 HC
        obtain ⟨G2,hG2⟩:∃ G2,G2 = swp G c p:=⟨_,rfl⟩
        obtain ⟨gk2,hgk⟩:∃ g,g = swp gk c p:=⟨_,rfl⟩
        obtain ⟨ck2,hck⟩:∃ g,g = swp ck c p:=⟨_,rfl⟩
        rw [<- hG2] at HE2 H02 HD2 HS2
        rw [<- hG2,<- hgk,<- hck] at HM6
        rw [<- hck] at HC2
        clear hG2 hgk hck
        go_wp2_with fail
        go_loopw [11] (fun av wx=>∃ a:Nat,av = .int .i64 (a:Int) /\ a <= n /\ RowsQ W2.heap.size wx go gk2 (fun _=>m) ck2 n n (fun _ j=>j < m) (gjP G2 c a c) /\ Below w.heap.size w wx) (fun av _=>n - (intOf av).toNat)
        case atStart=>exact ⟨0,by go_num,oM,by rw [gjP_start]; exact HM6.out,HB6.out⟩
        case round =>
         clear HM6 HB6
         obtain ⟨a,rfl,han,hL,hB⟩:=hrel
         have KBa:=hid hB
         obtain ⟨H,hH⟩:∃ H,H = gjP G2 c a c:=⟨_,rfl⟩
         rw [<- hH] at hL
         have HLa:=hid hL
         have HHe:=hid hH
         clear hL hB hH
         by_cases ha:a < n
         ·by_cases hac:a = c
          ·obtain rfl:c = a:=oM
           have hb:((c:Int) != (c:Int)) = false:=sP
           have HL4:=hid (show RowsQ W2.heap.size wr go gk2 (fun _=>m) ck2 n n (fun _ j=>j < m) (gjP G2 c (c + 1) c) by rw [<- gjP_skip,<- HHe.out]; exact HLa.out)
           clear HLa
           go_wp2
           go_roundw
           case rel=>exact ⟨c + 1,by go_num,oM,HL4.out,KBa.out⟩
           case measure=>exact mS
          ·have hb:((a:Int) != (c:Int)) = true:=sO
           obtain ⟨f,hf⟩:∃ f,f = (G2 a c).div (G2 c c):=⟨_,rfl⟩
           have e1:H a c = G2 a c:=by rw [HHe.out,gjP_here]
           have e2:H c c = G2 c c:=by rw [HHe.out,gjP_row]
           have HDV:=hid (fun W v u (h1:IsQ W v (H a c)) (h2:IsQ W u (H c c))=>rDiv_any v u (H a c) (H c c) W h1 h2 _ _ (by rw [e1]; exact HS2.out a c ha hc) (by rw [e2]; exact HS2.out c c hcn hc) oM (by rw [e2]; exact H02.out))
           rw [show (H a c).div (H c c) = f by rw [e1,e2,hf]] at HDV
           have HFe:=hid hf
           clear e1 e2 hf
           go_upto_region 22 with fail
           refine region_litA [.val (kIs (.slice (some ⟨go,0,none⟩) n n)),.val (kIs (.int .i64 (a:Int))),.val (kIs (.pointer (some ⟨go,a,none⟩))),.val (kIs (.slice (some ⟨gk2 a,0,none⟩) m (ck2 a))),.val (kIs (.int .i64 (c:Int))),.val (kIs (.pointer (some ⟨gk2 a,5 * c,none⟩))),.val (kQ (H a c)),.val (kIs (.slice (some ⟨go,0,none⟩) n n)),.val (kIs (.int .i64 (c:Int))),.val (kIs (.pointer (some ⟨go,c,none⟩))),.val (kIs (.slice (some ⟨gk2 c,0,none⟩) m (ck2 c))),.val (kIs (.int .i64 (c:Int))),.val (kIs (.pointer (some ⟨gk2 c,5 * c,none⟩))),.val (kQ (H c c)),.val (kQE f 0),.val (kQE f 0),.val (kQ (f)),.val (kIs (.int .i64 0)),.box tQ zQ,.put 18 16,.val (kIs (.int .i64 0))]
            ?fl1 ?hfl1 kR kR kR kR kR ⟨stab_is _,stab_is _,stab_is _,stab_is _,stab_is _,stab_is _,stab_q _,stab_is _,stab_is _,stab_is _,stab_is _,stab_is _,stab_is _,stab_q _,stab_qe _ _,stab_qe _ _,stab_q _,stab_is _,stab_is _,trivial⟩ sP ⟨obN (uMf rfl .fr),obN (uMf rfl .fr),obN (uIr rfl (.is 0) (.is 1) ha),obN (uLr' rfl (.is 2) fun W hb=>(HLa.out.below hb).cell ha),obN (uMf rfl .fr),obN (uIq rfl (.is 3) (.is 4) hc),obN (uQe rfl (.is 5) (fun W hb=>(HLa.out.below hb).rows _ ha) (lL hc (HC2.out _ ha)) hc),obN (uMf rfl .fr),obN (uMf rfl .fr),obN (uIr rfl (.is 7) (.is 8) hcn),obN (uLr' rfl (.is 9) fun W hb=>(HLa.out.below hb).cell hcn),obN (uMf rfl .fr),obN (uIq rfl (.is 10) (.is 11) hc),obN (uQe rfl (.is 12) (fun W hb=>(HLa.out.below hb).rows _ hcn) (lL hc (HC2.out _ hcn)) hc),obN (uC2 rfl (.at 6) (.at 13) fun _ W hb h=>rQE (HDV.out W _ _ (pg 6 h) (pg 13 h))),obN (uMv 14),obN (uX0 15 rfl),obN (uX1 15 rfl),alloc_q,store_q _,obN (uAs 17),trivial⟩ ?_
           case hfl1=>intro ts; simp only [fillT,zA,Nat.reduceAdd,sA,sB,sC]; rfl
           intro ts W9 hb9 hh hap
           obtain ⟨g11,A11,n11,c11,p11,A11b,n11b,c11b,p11b,A11c,n11c,c11c,e11,lo11,z11,X11,N11⟩:=held_boxQ (x:=f) (hh 18 sP) rfl (hh 19 sP) rfl (hh 16 sP) rfl
           have e12:=held_is (hh 20 sP) rfl
           simp only [e11,e12]
           clear hh hap e11 e12
           have HF:=hid (QBlk.one (V:=fun _=>True) X11 fun _=>N11)
           have HG:=hid (fun i (hi:i < n)=>show gk2 i ≠ g11 from fun e=>by have:=(HLa.out.rows i hi).lt; omega)
           have HLb:=hid (HLa.out.below hb9)
           have KBb:=hid (bT KBa.out hb9)
           rw [HHe.out] at HLb
           clear HLa KBa hb9 X11 N11 z11 lo11 HHe HDV
           go_wp2_with fail
           go_loopw [14] (fun kv wx=>∃ k:Nat,kv = .int .i64 (k:Int) /\ c <= k /\ k <= m /\ RowsQ W2.heap.size wx go gk2 (fun _=>m) ck2 n n (fun _ j=>j < m) (gjP G2 c a k) /\ QBlk wx g11 1 (fun _=>True) (fun _=>f) /\ Below w.heap.size w wx) (fun kv _=>m - (intOf kv).toNat)
           case atStart=>exact ⟨c,rfl,oM,oM,HLb.out,HF.out,KBb.out⟩
           case round =>
            clear HLb KBb HF
            obtain ⟨k,rfl,hck,hkm,hL,hF,hB⟩:=hrel
            have HF:=hid hF
            have KBk:=hid hB
            obtain ⟨P,hP⟩:∃ P,P = gjP G2 c a k:=⟨_,rfl⟩
            rw [<- hP] at hL
            have HLk:=hid hL
            have HPe:=hid hP
            clear hL hF hB hP
            by_cases hk:k < m
            ·have hkn:decide ((k:Int) <= (n:Int)) = true:=sO
             have hkn':(k:Int) <= (n:Int):=oM
             have e1:P a k = G2 a k:=by rw [HPe.out,gjP_here]
             have e2:P c k = G2 c k:=by rw [HPe.out,gjP_row]
             have hsf:Sz f (3 * szE s c + 2):=by rw [HFe.out]; exact ((HS2.out a c ha hc).div (HS2.out c c hcn hc)).mono oM
             have hsr:Sz (P c k) (szE s c):=by rw [e2]; exact HS2.out c k hcn hk
             have HMU:=hid (fun W v u (h1:IsQ W v f) (h2:IsQ W u (P c k))=>rMul_any v u f (P c k) W h1 h2 _ _ hsf hsr oM)
             have HSU:=hid (fun W v u (h1:IsQ W v (P a k)) (h2:IsQ W u (f.mul (P c k)))=>rSub_any v u (P a k) (f.mul (P c k)) W h1 h2 _ _ (by rw [e1]; exact HS2.out a k ha hk) (hsf.mul hsr) oM)
             have HZe:=hid (show (P a k).sub (f.mul (P c k)) = (G2 a k).sub (((G2 a c).div (G2 c c)).mul (G2 c k)) by rw [e1,e2,HFe.out])
             clear e1 e2 hsf hsr
             go_upto_region 26 with fail
             refine region_lastA [.val (kIs (.slice (some ⟨go,0,none⟩) n n)),.val (kIs (.int .i64 (a:Int))),.val (kIs (.pointer (some ⟨go,a,none⟩))),.val (kIs (.slice (some ⟨gk2 a,0,none⟩) m (ck2 a))),.val (kIs (.int .i64 (k:Int))),.val (kIs (.slice (some ⟨go,0,none⟩) n n)),.val (kIs (.int .i64 (a:Int))),.val (kIs (.pointer (some ⟨go,a,none⟩))),.val (kIs (.slice (some ⟨gk2 a,0,none⟩) m (ck2 a))),.val (kIs (.int .i64 (k:Int))),.val (kIs (.pointer (some ⟨gk2 a,5 * k,none⟩))),.val (kQ (P a k)),.val (kQ (f)),.val (kIs (.slice (some ⟨go,0,none⟩) n n)),.val (kIs (.int .i64 (c:Int))),.val (kIs (.pointer (some ⟨go,c,none⟩))),.val (kIs (.slice (some ⟨gk2 c,0,none⟩) m (ck2 c))),.val (kIs (.int .i64 (k:Int))),.val (kIs (.pointer (some ⟨gk2 c,5 * k,none⟩))),.val (kQ (P c k)),.val (kQ (f.mul (P c k))),.val (kQ ((P a k).sub (f.mul (P c k)))),.val (kIs (.pointer (some ⟨gk2 a,5 * k,none⟩)))]
              ?fl2 ?hfl2 kR kR kR kR kR ⟨Stab.b (stab_is _),Stab.b (stab_is _),Stab.b (stab_is _),Stab.b (stab_is _),Stab.b (stab_is _),Stab.b (stab_is _),Stab.b (stab_is _),Stab.b (stab_is _),Stab.b (stab_is _),Stab.b (stab_is _),Stab.b (stab_is _),Stab.b (stab_q _),Stab.b (stab_q _),Stab.b (stab_is _),Stab.b (stab_is _),Stab.b (stab_is _),Stab.b (stab_is _),Stab.b (stab_is _),Stab.b (stab_is _),Stab.b (stab_q _),Stab.b (stab_q _),Stab.b (stab_q _),Stab.b (stab_is _),trivial⟩ sP (ol:=_) rfl kR ⟨obN (uMf rfl .fr),obN (uMf rfl .fr),obN (uIr rfl (.is 0) (.is 1) ha),obN (uLr' rfl (.is 2) fun W hb=>(HLk.out.below hb).cell ha),obN (uMf rfl .fr),obN (uMf rfl .fr),obN (uMf rfl .fr),obN (uIr rfl (.is 5) (.is 6) ha),obN (uLr' rfl (.is 7) fun W hb=>(HLk.out.below hb).cell ha),obN (uMf rfl .fr),obN (uIq rfl (.is 8) (.is 9) hk),obN (uQe rfl (.is 10) (fun W hb=>(HLk.out.below hb).rows _ ha) (lL hk (HC2.out _ ha)) hk),obN (uQe rfl .fr (fun W hb=>HF.out.below hb) (by omega:0 < 1) trivial),obN (uMf rfl .fr),obN (uMf rfl .fr),obN (uIr rfl (.is 13) (.is 14) hcn),obN (uLr' rfl (.is 15) fun W hb=>(HLk.out.below hb).cell hcn),obN (uMf rfl .fr),obN (uIq rfl (.is 16) (.is 17) hk),obN (uQe rfl (.is 18) (fun W hb=>(HLk.out.below hb).rows _ hcn) (lL hk (HC2.out _ hcn)) hk),obN (uC2 rfl (.at 12) (.at 19) fun _ W hb h=>HMU.out W _ _ (pg 12 h) (pg 19 h)),obN (uC2 rfl (.at 11) (.at 20) fun _ W hb h=>HSU.out W _ _ (pg 11 h) (pg 20 h)),obN (uIq rfl (.is 3) (.is 4) hk),trivial⟩ ?_
             case hfl2=>intro ts; simp only [fillT,zA,Nat.reduceAdd,sA,sB,sC]; rfl
             intro ts W9 a9 ha9 hb9 hh K hK
             have hz:IsQ W9 (ts 21) ((P a k).sub (f.mul (P c k))):=hh 21 sP
             have hx:ts 22 = _:=hh 22 sP
             have ex:=(ha9 141).trans (by kernel_rfl:_ = ts 22)
             have ez:=(ha9 140).trans (by kernel_rfl:_ = ts 21)
             have HK:=hid hK
             clear hK hh
             have hcap:=lL hk (HC2.out a ha)
             refine ⟨wp_store_qe rfl (k:=k) (ex.trans hx) ez ((HLk.out.below hb9).rows a ha) hcap hz fun W4 hbut hext hrow=>⟨rfl,HK.out _ ?_⟩⟩
             have HF4:=hid ((HF.out.below hb9).but hbut hext (Ne.symm (HG.out a ha)))
             have HL4:=hid (show RowsQ W2.heap.size W4 go gk2 (fun _=>m) ck2 n n (fun _ j=>j < m) (gjP G2 c a (k + 1)) by
              rw [<- gjP_next G2 c a k hac hck,<- HZe.out,<- HPe.out]
              refine ((HLk.out.below hb9).set ha hbut hext hrow).to fun i j hi hj hv=>⟨?_,rfl⟩
              by_cases e:i = a
              ·rw [e,upf_same]; exact .inl hv
              ·rw [upf_other _ _ e]; exact hv)
             have KB4:=hid (hbut.below (bT KBk.out hb9) (Nat.le_trans K2.out.size (HLk.out.sep.los a ha)))
             clear HK hz hx ex ez hbut hext hrow HLk KBk HF hb9 ha9 HZe HPe HMU HSU
             go_wp2
             go_roundw
             case rel=>exact ⟨k + 1,by go_num,oM,oM,HL4.out,HF4.out,KB4.out⟩
             case measure=>exact mS
            ·obtain rfl:m = k:=oM
             have hkn:¬ ((m:Int) <= (n:Int)):=oM
             have HL4:=hid (show RowsQ W2.heap.size wr go gk2 (fun _=>m) ck2 n n (fun _ j=>j < m) (gjP G2 c (a + 1) c) from HLk.out.to fun i j hi hj hv=>⟨hv,by rw [HPe.out]; exact gjP_shut G2 c a m i j hv⟩)
             clear HLk
             go_wp2
             go_roundw
             case rel=>exact ⟨a + 1,by go_num,oM,HL4.out,KBk.out⟩
             case measure=>exact mS
         ·obtain rfl:n = a:=oM
          have HL3:=hid (show RowsQ W2.heap.size wr go gk2 (fun _=>m) ck2 n n (fun _ j=>j < m) (gjC G2 c n) by rw [<- gjP_all,<- HHe.out]; exact HLa.out)
          clear HLa
          go_wp2
          go_roundw
          case rel=>exact ⟨c + 1,gk2,ck2,_,by go_num,oM,HE2.out,HD2.out,HL3.out,HC2.out,KBa.out,sz_gjC HS2.out hcn hc⟩
          case measure=>exact mS
       ·have hzp:G p c = .zero:=of_decide_eq_true HZB.out.symm
        have HZ2:=hid (show ∀ a,c <= a -> a < p + 1 -> G a c = .zero from fun a h1 h2=>by
         by_cases e:a = p
         ·rw [e]; exact hzp
         ·exact HZS.out a h1 oM)
        clear hzp HZB
        go_wp2
        go_roundw
        case rel=>exact ⟨p + 1,by go_num,oM,oM,HZ2.out,HL8.out,KB8.out⟩
        case measure=>exact mS
      ·obtain rfl:n = p:=oM
       have hpv:=pivF_no HZS.out
       have HE2:=hid (show E = (false,G) by rw [HE.out,show n - c = (n - (c + 1)) + 1 by omega,gjS,if_pos (by rw [hpv]; omega)])
       have hne:((n:Int) == (n:Int)) = true:=sP
       clear hpv HZS
       go_upto_region 13 with fail
       refine region_litA [.val (kIs (.int .i64 (n:Int))),.val (kIs (.int .i64 (n:Int))),.val (kIs (.bool false)),.val (kIs (.bool false)),.val (kIs (undef)),.val (kIs (undef)),.val (kIs (undef)),.val (kIs (undef)),.val (kIs (undef)),.val (kIs (undef)),.val (kIs (undef)),.val (kIs (undef)),.val (kIs (.bool false))]
        ?fl6 ?hfl6 kR kR kR kR kR ⟨Stab.b (stab_is _),Stab.b (stab_is _),Stab.b (stab_is _),Stab.b (stab_is _),Stab.b (stab_is _),Stab.b (stab_is _),Stab.b (stab_is _),Stab.b (stab_is _),Stab.b (stab_is _),Stab.b (stab_is _),Stab.b (stab_is _),Stab.b (stab_is _),Stab.b (stab_is _),trivial⟩ sP ⟨obN (uMf rfl .fr),obN (uMf rfl .fr),obN (uBn rfl (.is 0) (.is 1) fun w=>sG),obN (uMv 2),obZ 3,obZ 3,obZ 3,obZ 3,obZ 3,obZ 3,obZ 3,obZ 3,obN (uPf rfl (.is 3) .k),trivial⟩ ?_
       case hfl6=>intro ts; simp only [fillT,zA,Nat.reduceAdd,sA,sB,sC]; rfl
       intro ts W8 hb8 hh hap
       have e12:=held_is (hh 12 sP) rfl
       simp only [e12]
       clear hh hap e12
       have KB8:=hid (bT KB.out hb8)
       clear HL KB hb8
       go_wp2
       go_ret2
       exact ⟨KB8.out,.inr ⟨by rw [HE2.out],rfl⟩⟩
    ·obtain rfl:n = c:=oM
     have HE2:=hid (show E = (true,G) by rw [HE.out,Nat.sub_self,gjS])
     obtain ⟨gx,hgx⟩:∃ gx,gx = wr.heap.size:=⟨_,rfl⟩
     obtain ⟨W4,hr4,hb4,hs4,hQ4⟩:=make_rowq n oM wr
     rw [<- hgx] at hr4 hQ4
     have HG:=hid (fun i (hi:i < n)=>show gk i ≠ gx from fun e=>by have:=(HL.out.rows i hi).lt; omega)
     have HGo:=hid (show go ≠ gx from fun e=>by have:=HL.out.lt; omega)
     have HL4:=hid (HL.out.below hb4)
     have HF4:=hid (show QBlk W4 gx n (fun j=>j < 0) (fun j=>(G j n).div (G j j)) from hQ4.to fun j hj h=>oM)
     have K4:=hid (bT KB.out hb4)
     have hgw:w.heap.size <= gx:=by have:=KB.out.size; omega
     have hsz:5 * szE s n + 4 < 549755813888:=by rw [szE] at h5; exact h5
     clear HL KB HE hb4 hs4 hQ4 hgx
     go_wp2
     clear hr4
     go_loopw [16] (fun iv wx=>∃ i:Nat,iv = .int .i64 (i:Int) /\ i <= n /\ RowsQ W2.heap.size wx go gk (fun _=>m) ck n n (fun _ j=>j < m) G /\ QBlk wx gx n (fun j=>j < i) (fun j=>(G j n).div (G j j)) /\ Below w.heap.size w wx) (fun iv _=>n - (intOf iv).toNat)
     case atStart=>exact ⟨0,rfl,oM,HL4.out,HF4.out,K4.out⟩
     case round =>
      clear HL4 HF4 K4
      obtain ⟨i,rfl,hin,hL,hF,hB⟩:=hrel
      have HL:=hid hL
      have HF:=hid hF
      have KB:=hid hB
      clear hL hF hB
      by_cases hi:i < n
      ·have him:i < m:=oM
       obtain ⟨f,hf⟩:∃ f,f = (G i n).div (G i i):=⟨_,rfl⟩
       have HDV:=hid (fun W v u (h1:IsQ W v (G i n)) (h2:IsQ W u (G i i))=>rDiv_any v u (G i n) (G i i) W h1 h2 _ _ (HS.out i n hi hnm) (HS.out i i hi him) oM (HD.out i hi).1)
       rw [<- hf] at HDV
       have HFe:=hid hf
       clear hf
       go_upto_region 31 with fail
       refine region_lateA [.val (kIs (.slice (some ⟨gx,0,none⟩) n n)),.val (kIs (.int .i64 (i:Int))),.val (kIs (.slice (some ⟨go,0,none⟩) n n)),.val (kIs (.int .i64 (i:Int))),.val (kIs (.pointer (some ⟨go,i,none⟩))),.val (kIs (.slice (some ⟨gk i,0,none⟩) m (ck i))),.val (kIs (.int .i64 (n:Int))),.val (kIs (.pointer (some ⟨gk i,5 * n,none⟩))),.val (kQ (G i n)),.val (kIs (.slice (some ⟨go,0,none⟩) n n)),.val (kIs (.int .i64 (i:Int))),.val (kIs (.pointer (some ⟨go,i,none⟩))),.val (kIs (.slice (some ⟨gk i,0,none⟩) m (ck i))),.val (kIs (.int .i64 (i:Int))),.val (kIs (.pointer (some ⟨gk i,5 * i,none⟩))),.val (kQ (G i i)),.val (kQE f 0),.val (kQE f 0),.val (kQ (f)),.val (kIs (.int .i64 0)),.val (kIs (.pointer (some ⟨gx,5 * i,none⟩)))] 19 (fun W=>RowsQ W2.heap.size W go gk (fun _=>m) ck n n (fun _ j=>j < m) G /\ QBlk W gx n (fun j=>j < i + 1) (fun j=>(G j n).div (G j j)) /\ Below w.heap.size w W)
        ?fl31 ?hfl31 kR kR kR kR kR ⟨stab_is _,stab_is _,stab_is _,stab_is _,stab_is _,stab_is _,stab_is _,stab_is _,stab_q _,stab_is _,stab_is _,stab_is _,stab_is _,stab_is _,stab_is _,stab_q _,stab_qe _ _,stab_qe _ _,stab_q _,stab_is _,stab_is _,trivial⟩ (by rfl) sP (ol:=_) rfl kR ⟨obN (uMf rfl .fr),obN (uMf rfl .fr),obN (uMf rfl .fr),obN (uMf rfl .fr),obN (uIr rfl (.is 2) (.is 3) hi),obN (uLr' rfl (.is 4) fun W hb=>(HL.out.below hb).cell hi),obN (uMf rfl .fr),obN (uIq rfl (.is 5) (.is 6) hnm),obN (uQe rfl (.is 7) (fun W hb=>(HL.out.below hb).rows _ hi) (lL hnm (HC.out _ hi)) hnm),obN (uMf rfl .fr),obN (uMf rfl .fr),obN (uIr rfl (.is 9) (.is 10) hi),obN (uLr' rfl (.is 11) fun W hb=>(HL.out.below hb).cell hi),obN (uMf rfl .fr),obN (uIq rfl (.is 12) (.is 13) him),obN (uQe rfl (.is 14) (fun W hb=>(HL.out.below hb).rows _ hi) (lL him (HC.out _ hi)) him),obN (uC2 rfl (.at 8) (.at 15) fun _ W hb h=>rQE (HDV.out W _ _ (pg 8 h) (pg 15 h))),obN (uMv 16),obN (uX0 17 rfl),obN (uX1 17 rfl),obN (uIq rfl (.is 0) (.is 1) hi),trivial⟩ sP (o1:=_) rfl (fun B w0=>obN (uX1 17 rfl)) (fun _ _ hb ⟨h1,h2,h3⟩=>⟨h1.below hb,h2.below hb,bT h3 hb⟩) ?store31 ?fin31
       case hfl31=>intro ts; simp only [fillT,zA,Nat.reduceAdd,sA,sB,sC]; rfl
       case store31 =>
        intro ts W9 a9 ha9 hb9 hp K hK
        have hz:IsQ W9 (ts 18) f:=pg (q:=kQ f) 18 hp
        have hx:ts 20 = _:=pg (q:=kIs (.pointer (some ⟨gx,5 * i,none⟩))) 20 hp
        have ex:=(ha9 169).trans (by kernel_rfl:_ = ts 20)
        have ez:=(ha9 167).trans (by kernel_rfl:_ = ts 18)
        refine ⟨wp_store_qe rfl (k:=i) (ex.trans hx) ez (HF.out.below hb9) hi hz fun W5 hbut hext hrow=>hK _ ⟨(HL.out.below hb9).but hbut hext HGo.out HG.out,hrow.to fun j hj h=>⟨oM,?_⟩,hbut.below (bT KB.out hb9) hgw⟩ hext⟩
        by_cases e:j = i
        ·rw [e,upf_same,HFe.out]
        ·rw [upf_other _ _ e]
       case fin31 =>
        rintro ts W5 ⟨hL,hF,hB⟩
        have HL5:=hid hL
        have HF5:=hid hF
        have KB5:=hid hB
        clear hL hF hB HL HF KB HDV HFe
        go_wp2
        go_roundw
        case rel=>exact ⟨i + 1,by go_num,oM,HL5.out,HF5.out,KB5.out⟩
        case measure=>exact mS
      ·obtain rfl:n = i:=oM
       go_wp2
       go_ret2
       exact ⟨KB.out,.inl ⟨by rw [HE2.out],gx,hgw,rfl,by rw [HE2.out]; exact HF.out.to fun j hj _=>⟨hj,rfl⟩⟩⟩
end Go.Proofs.YtffegeaflohfhaaGreatDoor
