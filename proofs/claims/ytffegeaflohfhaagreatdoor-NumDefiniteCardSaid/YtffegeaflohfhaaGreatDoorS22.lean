import Derived.Test.YtffegeaflohfhaaGreatDoorS16
import Derived.Test.YtffegeaflohfhaaGreatDoorS18
import Derived.Test.YtffegeaflohfhaaGreatDoorS19
import Derived.Test.YtffegeaflohfhaaGreatDoorS21
import Derived.Test.YtffegeaflohfhaaGreatDoorS02
set_option linter.unusedVariables false
set_option linter.unusedSimpArgs false
set_option maxRecDepth 100000
set_option maxHeartbeats 8000000
namespace Go.Proofs.YtffegeaflohfhaaGreatDoor
open Go.RowKit
theorem Sz.inv {y:Cx} {n:Nat} (h:Sz y n) (h0:y ≠ .zero):Sz y.inv (2 * n + 1):=by
 obtain ⟨a,b,d,hl⟩:=Low.ex y
 obtain ⟨h1,h2,h3⟩:=h a b d hl
 obtain ⟨t1,t2,t3⟩:=inv_terms hl h0
 have e1:=wl_imul a (d:Int)
 have e2:=wl_imul b (d:Int)
 have e3:=wl_iadd (a * a) (b * b)
 have e4:=wl_imul a a
 have e5:=wl_imul b b
 have e6:=wl_inat d
 refine Sz.of t1 t2 t3 oM ?_ oM
 rw [Int.natAbs_neg]
 omega
theorem Cx.div_zero (x:Cx):x.div .zero = .zero:=by
 apply Cx.ext <;> simp [Cx.div,Cx.mul,Cx.inv,Cx.zero,Cx.nrm,Rat.div_def] <;> grind
theorem Sz.zero {n:Nat} (hn:1 <= n):Sz .zero n:=Sz.low Low.zero (by simp [wl_zero]) (by simp [wl_zero]) (by rw [wl_one]; exact hn)
theorem Sz.pos {x:Cx} {n:Nat} (h:Sz x n):1 <= n:=by
 obtain ⟨a,b,d,hl⟩:=Low.ex x
 obtain ⟨h1,h2,h3⟩:=h a b d hl
 have:=hl.pos
 have:wl d ≠ 0:=fun e=>by have:=wl_eq_zero.1 e; omega
 omega
theorem Sz.div {x y:Cx} {m n:Nat} (h:Sz x m) (h':Sz y n):Sz (x.div y) (m + 2 * n + 2):=by
 by_cases h0:y = .zero
 ·subst h0
  rw [Cx.div_zero]
  exact Sz.zero oM
 ·have:=h.mul (h'.inv h0)
  rwa [show m + (2 * n + 1) + 1 = m + 2 * n + 2 by omega] at this
theorem Sz.sub {x y:Cx} {m n:Nat} (h:Sz x m) (h':Sz y n):Sz (x.sub y) (m + n + 1):=by
 have:=h.add h'.neg
 have e:x.add y.neg = x.sub y:=by apply Cx.ext <;> simp [Cx.add,Cx.neg,Cx.sub] <;> grind
 rwa [e] at this
theorem divN_any (v u:Value) (x y:Cx) (w:World) (h:IsNum w v x) (h':IsNum w u y) (m n:Nat) (hx:Sz x m) (hy:Sz y n) (hm:m + 4 * n + 4 < 549755813888) (hT:Tab w) :
  Calls Tryz.prog 38 #[v,u] w (RetNumE w (x.div y) (if y = .zero then 3 else 0)):=by
 by_cases h0:y = .zero
 ·rw [if_pos h0]
  have:=divN_0 v u x y w h h' m n hx hy hm hT h0
  rw [h0,Cx.div_zero]
  exact this
 ·rw [if_neg h0]
  by_cases h1:y.im = 0
  ·exact divN_r v u x y w h h' m n hx hy hm hT h0 h1
  ·exact divN_c v u x y w h h' m n hx hy hm hT h0 h1
theorem Tab.belowB {B:Nat} {w w':World} (h:Tab w) (hB:1 < B) (hb:Below B w w'):Tab w' :=
 ⟨lL h.1 hb.size,fun k hk=>(hb.cell (p:=⟨1,k,none⟩) hB).trans (h.2 k hk)⟩
def clearP (F:Nat -> Nat -> Cx) (r c i k:Nat):Nat -> Nat -> Cx:=fun a b =>
 if r < a /\ c < b /\ (a < i ∨ a = i /\ b < k) then (F a b).sub (((F a c).div (F r c)).mul (F r b)) else F a b
def clearF (F:Nat -> Nat -> Cx) (r c n:Nat):Nat -> Nat -> Cx:=clearP F r c n 0
theorem clearP_row (F:Nat -> Nat -> Cx) (r c i k b:Nat):clearP F r c i k r b = F r b:=if_neg oM
theorem clearP_here (F:Nat -> Nat -> Cx) (r c i k b:Nat) (h:k <= b):clearP F r c i k i b = F i b:=if_neg oM
theorem clearP_col (F:Nat -> Nat -> Cx) (r c i k a:Nat):clearP F r c i k a c = F a c:=if_neg oM
theorem clearP_open (F:Nat -> Nat -> Cx) (r c i:Nat):clearP F r c i (c + 1) = clearP F r c i 0:=by
 funext a b
 unfold clearP
 by_cases h:r < a /\ c < b /\ (a < i ∨ a = i /\ b < c + 1)
 ·rw [if_pos h,if_pos oM]
 ·rw [if_neg h,if_neg oM]
theorem clearP_shut (F:Nat -> Nat -> Cx) (r c i m:Nat):∀ a b,b < m -> clearP F r c i m a b = clearP F r c (i + 1) 0 a b:=fun a b hb=>by
 unfold clearP
 by_cases h:r < a /\ c < b /\ (a < i ∨ a = i /\ b < m)
 ·rw [if_pos h,if_pos oM]
 ·rw [if_neg h,if_neg oM]
theorem clearP_next (F:Nat -> Nat -> Cx) (r c i k:Nat) (hi:r < i) (hk:c < k):upm (clearP F r c i k) i k ((F i k).sub (((F i c).div (F r c)).mul (F r k))) = clearP F r c i (k + 1):=by
 funext a b
 unfold upm upf
 by_cases ha:a = i
 ·subst ha
  rw [if_pos rfl]
  by_cases hb:b = k
  ·subst hb
   rw [if_pos rfl]
   exact (if_pos oM).symm
  ·rw [if_neg hb]
   unfold clearP
   by_cases h:r < a /\ c < b /\ (a < a ∨ a = a /\ b < k)
   ·rw [if_pos h,if_pos oM]
   ·rw [if_neg h,if_neg oM]
 ·rw [if_neg ha]
  unfold clearP
  by_cases h:r < a /\ c < b /\ (a < i ∨ a = i /\ b < k)
  ·rw [if_pos h,if_pos oM]
  ·rw [if_neg h,if_neg oM]
theorem below_transB {B:Nat} {a b c:World} (h:Below B a b) (k:Below b.heap.size b c) (hB:B <= b.heap.size):Below B a c:=h.trans (k.mono hB)
theorem clearBelowN_any (B:Nat) (w:World) (go:Nat) (gi:Nat -> Nat) (n m r c s:Nat) (F:Nat -> Nat -> Cx) (h:MatAt w go gi n m F) (hs:MatSep B go gi n) (hTB:1 < B) (hT:Tab w)
  (hr:r < n) (hc:c < m) (hn:n <= 1073741824) (hm:m <= 1073741824) (hS:∀ a b,a < n -> b < m -> Sz (F a b) s) (h5:5 * s + 4 < 549755813888) :
  Calls Tryz.prog 66 #[.slice (some ⟨go,0,none⟩) n n,.int .i64 r,.int .i64 c] w fun e w'=>e = .returned (.tuple #[]) /\ MatAt w' go gi n m (clearF F r c n) /\ Below B w w':=by
 have hBw:B <= w.heap.size:=by have:=hs.lo; have:=h.lt; omega
 have hm0:MatAt w go gi n m (clearP F r c (r + 1) 0):=h.congr fun a b _ _=>(if_neg oM).symm
 have H0:=hid hm0
 have TB:=hid hT
 clear h hT hm0
 obtain ⟨D,hD⟩:∃ D:Int,D = (if F r c = .zero then 3 else 0):=⟨_,rfl⟩
 have HD:=hid hD
 clear hD
 go_enter Tryz.func66,Tryz.ntmps66
 go_wp2
 go_loopw [6] (fun j wr=>∃ i:Nat,j = .int .i64 i /\ r < i /\ i <= n /\ MatAt wr go gi n m (clearP F r c i 0) /\ Below B w wr) (fun j _=>n - (intOf j).toNat)
 case atStart=>exact ⟨r + 1,by go_num,oM,oM,H0.out,Below.refl _ _⟩
 case round =>
  obtain ⟨i,rfl,hri,hin,hM,hB0⟩:=hrel
  have hBr:B <= wr.heap.size:=Nat.le_trans hBw hB0.size
  have H:=hid hM
  have KB:=hid hB0
  clear hM hB0
  by_cases hi:i < n
  ·have hf:Sz ((F i c).div (F r c)) (3 * s + 2):=by have:=(hS i c hi hc).div (hS r c hr hc); exact this.mono oM
   go_upto_region 3 with fail
   refine region_lin [.val (kIs (.slice (some ⟨go,0,none⟩) n n)),.val (kIs (.int .i64 (i:Int))),.val (kIs (.pointer (some ⟨go,i,none⟩))),.val (kIs (.slice (some ⟨gi i,0,none⟩) m m)),.val (kIs (.int .i64 (c:Int))),.val (kIs (.pointer (some ⟨(gi i),5 * c,none⟩))),.val (kNum (F i c)),.val (kIfc (F i c)),.val (kIs (.slice (some ⟨go,0,none⟩) n n)),.val (kIs (.int .i64 (r:Int))),.val (kIs (.pointer (some ⟨go,r,none⟩))),.val (kIs (.slice (some ⟨gi r,0,none⟩) m m)),.val (kIs (.int .i64 (c:Int))),.val (kIs (.pointer (some ⟨(gi r),5 * c,none⟩))),.val (kNum (F r c)),.val (kTup ((F i c).div (F r c)) D),.val (kTup ((F i c).div (F r c)) D),.val (kNum (((F i c).div (F r c)))),.val (kIs (.int .i64 D)),.box 35 zNum,.put 19 17,.val (kIs (.int .i64 D))]
    kR kR kR kR kR ⟨stab_is _,stab_is _,stab_is _,stab_is _,stab_is _,stab_is _,stab_num _,stab_ifc _,stab_is _,stab_is _,stab_is _,stab_is _,stab_is _,stab_is _,stab_num _,stab_tup _ _,stab_tup _ _,stab_num _,stab_is _,stab_is _,trivial⟩ sP ⟨?_,?_,?_,?_,?_,?_,?_,?_,?_,?_,?_,?_,?_,?_,?_,?_,?_,?_,?_,alloc_num,store_num _,?_,trivial⟩ ?_
   ·intro ts W hb hB hp K hK
    simp only [fillT,zA,Nat.reduceAdd,sA,sB,sC] at hK ⊢
    have HK:=hid hK
    clear hK hp
    refine ⟨?_⟩
    go_simp
    exact HK.out _ _ rfl rfB
   ·intro ts W hb hB hp K hK
    simp only [fillT,zA,Nat.reduceAdd,sA,sB,sC] at hK ⊢
    have HK:=hid hK
    clear hK hp
    refine ⟨?_⟩
    go_simp
    exact HK.out _ _ rfl rfB
   ·intro ts W hb hB hp
    have h0:ts 0 = _:=hp 0 kR
    have h1:ts 1 = _:=hp 1 kR
    intro K hK
    simp only [fillT,zA,Nat.reduceAdd,sA,sB,sC,h0,h1] at hK ⊢
    have HK:=hid hK
    clear hK hp
    refine ⟨?_⟩
    go_simp
    exact HK.out _ _ rfl rfB
   ·intro ts W hb hB hp
    have h2:ts 2 = _:=hp 2 kR
    intro K hK
    simp only [fillT,zA,Nat.reduceAdd,sA,sB,sC,h2] at hK ⊢
    have HK:=hid hK
    clear hK hp
    have hcell:=(H.out.below hb).cell hi
    refine ⟨?_⟩
    go_simp
    exact HK.out _ _ rfl rfB
   ·intro ts W hb hB hp K hK
    simp only [fillT,zA,Nat.reduceAdd,sA,sB,sC] at hK ⊢
    have HK:=hid hK
    clear hK hp
    refine ⟨?_⟩
    go_simp
    exact HK.out _ _ rfl rfB
   ·intro ts W hb hB hp
    have h3:ts 3 = _:=hp 3 kR
    have h4:ts 4 = _:=hp 4 kR
    intro K hK
    simp only [fillT,zA,Nat.reduceAdd,sA,sB,sC,h3,h4] at hK ⊢
    have HK:=hid hK
    clear hK hp
    refine ⟨?_⟩
    go_simp
    exact HK.out _ _ (by simp [kIs,Nat.mul_comm]) rfB
   ·intro ts W hb hB hp
    have h5:ts 5 = _:=hp 5 kR
    intro K hK
    simp only [fillT,zA,Nat.reduceAdd,sA,sB,sC,h5] at hK ⊢
    have HK:=hid hK
    clear hK hp
    refine ⟨?_⟩
    refine wp_load_elem rfl rfl ((H.out.row hi).below hb) hc (fun v hv=>HK.out _ _ (by rw [clearP_col] at hv; exact hv) rfB)
   ·intro ts W hb hB hp
    have h6:IsNum W (ts 6) (F i c):=hp 6 kR
    intro K hK
    simp only [fillT,zA,Nat.reduceAdd,sA,sB,sC] at hK ⊢
    have HK:=hid hK
    clear hK hp
    refine ⟨?_⟩
    go_simp
    exact HK.out _ _ ⟨_,rfl,h6⟩ rfB
   ·intro ts W hb hB hp K hK
    simp only [fillT,zA,Nat.reduceAdd,sA,sB,sC] at hK ⊢
    have HK:=hid hK
    clear hK hp
    refine ⟨?_⟩
    go_simp
    exact HK.out _ _ rfl rfB
   ·intro ts W hb hB hp K hK
    simp only [fillT,zA,Nat.reduceAdd,sA,sB,sC] at hK ⊢
    have HK:=hid hK
    clear hK hp
    refine ⟨?_⟩
    go_simp
    exact HK.out _ _ rfl rfB
   ·intro ts W hb hB hp
    have h8:ts 8 = _:=hp 8 kR
    have h9:ts 9 = _:=hp 9 kR
    intro K hK
    simp only [fillT,zA,Nat.reduceAdd,sA,sB,sC,h8,h9] at hK ⊢
    have HK:=hid hK
    clear hK hp
    refine ⟨?_⟩
    go_simp
    exact HK.out _ _ rfl rfB
   ·intro ts W hb hB hp
    have h10:ts 10 = _:=hp 10 kR
    intro K hK
    simp only [fillT,zA,Nat.reduceAdd,sA,sB,sC,h10] at hK ⊢
    have HK:=hid hK
    clear hK hp
    have hcell:=(H.out.below hb).cell hr
    refine ⟨?_⟩
    go_simp
    exact HK.out _ _ rfl rfB
   ·intro ts W hb hB hp K hK
    simp only [fillT,zA,Nat.reduceAdd,sA,sB,sC] at hK ⊢
    have HK:=hid hK
    clear hK hp
    refine ⟨?_⟩
    go_simp
    exact HK.out _ _ rfl rfB
   ·intro ts W hb hB hp
    have h11:ts 11 = _:=hp 11 kR
    have h12:ts 12 = _:=hp 12 kR
    intro K hK
    simp only [fillT,zA,Nat.reduceAdd,sA,sB,sC,h11,h12] at hK ⊢
    have HK:=hid hK
    clear hK hp
    refine ⟨?_⟩
    go_simp
    exact HK.out _ _ (by simp [kIs,Nat.mul_comm]) rfB
   ·intro ts W hb hB hp
    have h13:ts 13 = _:=hp 13 kR
    intro K hK
    simp only [fillT,zA,Nat.reduceAdd,sA,sB,sC,h13] at hK ⊢
    have HK:=hid hK
    clear hK hp
    refine ⟨?_⟩
    refine wp_load_elem rfl rfl ((H.out.row hr).below hb) hc (fun v hv=>HK.out _ _ (by rw [clearP_col] at hv; exact hv) rfB)
   ·intro ts W hb hB hp
    have h7:=hp 7 kR
    have h14:IsNum W (ts 14) (F r c):=hp 14 kR
    intro K hK
    simp only [fillT,zA,Nat.reduceAdd,sA,sB,sC] at hK ⊢
    have HK:=hid hK
    clear hK hp
    obtain ⟨u7,e7,n7⟩:=h7
    refine ⟨?_⟩
    refine wp_invoke rfl (T:=35) (v:=u7) (xs:=#[u7,ts 14]) e7 inv_Div (by simp [Act.eval]) ?_
    refine (divN_any u7 (ts 14) (F i c) (F r c) W n7 h14 s s (hS i c hi hc) (hS r c hr hc) oM (TB.out.belowB hTB (below_transB KB.out hb hBr))).mono ?_
    rintro e W9 ⟨r9,rfl,hr9,hb9⟩
    exact HK.out _ _ ⟨r9,(by rw [HD.out]),hr9⟩ hb9
   ·intro ts W hb hB hp
    have h15:=hp 15 kR
    intro K hK
    simp only [fillT,zA,Nat.reduceAdd,sA,sB,sC] at hK ⊢
    have HK:=hid hK
    clear hK hp
    refine ⟨?_⟩
    go_simp
    exact HK.out _ _ h15 rfB
   ·intro ts W hb hB hp
    have h16:=hp 16 kR
    intro K hK
    obtain ⟨u16,e16,n16⟩:=h16
    simp only [fillT,zA,Nat.reduceAdd,sA,sB,sC,e16] at hK ⊢
    have HK:=hid hK
    clear hK hp
    refine ⟨?_⟩
    go_simp
    exact HK.out _ _ n16 rfB
   ·intro ts W hb hB hp
    have h16:=hp 16 kR
    intro K hK
    obtain ⟨u16,e16,n16⟩:=h16
    simp only [fillT,zA,Nat.reduceAdd,sA,sB,sC,e16] at hK ⊢
    have HK:=hid hK
    clear hK hp
    refine ⟨?_⟩
    go_simp
    exact HK.out _ _ rfl rfB
   ·intro ts W hb hB hp
    have h18:ts 18 = _:=hp 18 kR
    intro K hK
    simp only [fillT,zA,Nat.reduceAdd,sA,sB,sC,h18] at hK ⊢
    have HK:=hid hK
    clear hK hp
    refine ⟨?_⟩
    go_simp
    exact HK.out _ _ rfl rfB
   intro ts W2 hb2 hh hap
   obtain ⟨g7,A7,n7,c7,p7,A7b,n7b,c7b,p7b,A7c,n7c,c7c,e19,lo7,z7,X7,N7⟩:=held_box (x:=((F i c).div (F r c))) (hh 19 sP) rfl (hh 20 sP) rfl (hh 17 sP) rfl
   have e21:=held_is (hh 21 sP) rfl
   simp only [fillT,zA,Nat.reduceAdd,sA,sB,sC,e19,e21]
   clear hh hap e19 e21
   generalize ts 0 = u0_W2 at *
   generalize ts 1 = u1_W2 at *
   generalize ts 2 = u2_W2 at *
   generalize ts 3 = u3_W2 at *
   generalize ts 4 = u4_W2 at *
   generalize ts 5 = u5_W2 at *
   generalize ts 6 = u6_W2 at *
   generalize ts 7 = u7_W2 at *
   generalize ts 8 = u8_W2 at *
   generalize ts 9 = u9_W2 at *
   generalize ts 10 = u10_W2 at *
   generalize ts 11 = u11_W2 at *
   generalize ts 12 = u12_W2 at *
   generalize ts 13 = u13_W2 at *
   generalize ts 14 = u14_W2 at *
   generalize ts 15 = u15_W2 at *
   generalize ts 16 = u16_W2 at *
   generalize ts 17 = u17_W2 at *
   generalize ts 18 = u18_W2 at *
   clear ts
   have hg7:∀ a,a < n -> gi a ≠ g7:=fun a ha=>by have:=(H.out.row ha).lt; omega
   have hgo7:go ≠ g7:=by have:=H.out.lt; omega
   have hm1:MatAt W2 go gi n m (clearP F r c i (c + 1)):=by rw [clearP_open]; exact H.out.below hb2
   have KB2:=hid (below_transB KB.out hb2 hBr)
   have HM1:=hid hm1
   have HG7:=hid hg7
   have HX7:=hid X7
   clear hm1 hb2 lo7 X7 hg7
   go_wp2
   go_loopw [9] (fun j wr=>∃ k:Nat,j = .int .i64 k /\ c < k /\ k <= m /\ MatAt wr go gi n m (clearP F r c i k) /\ wr.heap[g7]? = some (.cells #[.slice A7 n7 c7,.bool p7,.slice A7b n7b c7b,.bool p7b,.slice A7c n7c c7c] 35 (0,0)) /\ IsNum wr (.agg #[.slice A7 n7 c7,.bool p7,.slice A7b n7b c7b,.bool p7b,.slice A7c n7c c7c]) ((F i c).div (F r c)) /\ Below B w wr) (fun j _=>m - (intOf j).toNat)
   case atStart=>exact ⟨c + 1,by go_num,oM,oM,HM1.out,HX7.out,N7,KB2.out⟩
   case round =>
    rename_i wr1
    obtain ⟨k,rfl,hck,hkm,hM2,X7,N7,hB2⟩:=hrel
    have hBr2:B <= wr.heap.size:=Nat.le_trans hBw hB2.size
    have z7:g7 < wr.heap.size:=heap_ge_none X7
    have HM:=hid hM2
    have KB3:=hid hB2
    clear hM2 hB2
    have hcell:=HM.out.cell hi
    by_cases hk:k < m
    ·go_upto_region 7 with fail
     clear hcell
     refine region_last [.val (kIs (.slice (some ⟨go,0,none⟩) n n)),.val (kIs (.int .i64 (i:Int))),.val (kIs (.pointer (some ⟨go,i,none⟩))),.val (kIs (.slice (some ⟨gi i,0,none⟩) m m)),.val (kIs (.int .i64 (k:Int))),.val (kIs (.slice (some ⟨go,0,none⟩) n n)),.val (kIs (.int .i64 (i:Int))),.val (kIs (.pointer (some ⟨go,i,none⟩))),.val (kIs (.slice (some ⟨gi i,0,none⟩) m m)),.val (kIs (.int .i64 (k:Int))),.val (kIs (.pointer (some ⟨(gi i),5 * k,none⟩))),.val (kNum (F i k)),.val (kIfc (F i k)),.val (kIs (.agg #[.slice A7 n7 c7,.bool p7,.slice A7b n7b c7b,.bool p7b,.slice A7c n7c c7c])),.val (kIfc (((F i c).div (F r c)))),.val (kIs (.slice (some ⟨go,0,none⟩) n n)),.val (kIs (.int .i64 (r:Int))),.val (kIs (.pointer (some ⟨go,r,none⟩))),.val (kIs (.slice (some ⟨gi r,0,none⟩) m m)),.val (kIs (.int .i64 (k:Int))),.val (kIs (.pointer (some ⟨(gi r),5 * k,none⟩))),.val (kNum (F r k)),.val (kNum (((F i c).div (F r c)).mul (F r k))),.val (kNum ((F i k).sub (((F i c).div (F r c)).mul (F r k)))),.val (kIs (.pointer (some ⟨(gi i),5 * k,none⟩)))]
      kR kR kR kR kR ⟨Stab.b (stab_is _),Stab.b (stab_is _),Stab.b (stab_is _),Stab.b (stab_is _),Stab.b (stab_is _),Stab.b (stab_is _),Stab.b (stab_is _),Stab.b (stab_is _),Stab.b (stab_is _),Stab.b (stab_is _),Stab.b (stab_is _),Stab.b (stab_num _),Stab.b (stab_ifc _),Stab.b (stab_is _),Stab.b (stab_ifc _),Stab.b (stab_is _),Stab.b (stab_is _),Stab.b (stab_is _),Stab.b (stab_is _),Stab.b (stab_is _),Stab.b (stab_is _),Stab.b (stab_num _),Stab.b (stab_num _),Stab.b (stab_num _),Stab.b (stab_is _),trivial⟩ sP (ol:=_) rfl kR ⟨?_,?_,?_,?_,?_,?_,?_,?_,?_,?_,?_,?_,?_,?_,?_,?_,?_,?_,?_,?_,?_,?_,?_,?_,?_,trivial⟩ ?_
     ·intro ts W hb hB hp K hK
      simp only [fillT,zA,Nat.reduceAdd,sA,sB,sC] at hK ⊢
      have HK:=hid hK
      clear hK hp
      refine ⟨?_⟩
      go_simp
      exact HK.out _ _ rfl rfB
     ·intro ts W hb hB hp K hK
      simp only [fillT,zA,Nat.reduceAdd,sA,sB,sC] at hK ⊢
      have HK:=hid hK
      clear hK hp
      refine ⟨?_⟩
      go_simp
      exact HK.out _ _ rfl rfB
     ·intro ts W hb hB hp
      have h0:ts 0 = _:=hp 0 kR
      have h1:ts 1 = _:=hp 1 kR
      intro K hK
      simp only [fillT,zA,Nat.reduceAdd,sA,sB,sC,h0,h1] at hK ⊢
      have HK:=hid hK
      clear hK hp
      refine ⟨?_⟩
      go_simp
      exact HK.out _ _ rfl rfB
     ·intro ts W hb hB hp
      have h2:ts 2 = _:=hp 2 kR
      intro K hK
      simp only [fillT,zA,Nat.reduceAdd,sA,sB,sC,h2] at hK ⊢
      have HK:=hid hK
      clear hK hp
      have hcell:=(HM.out.below hb).cell hi
      refine ⟨?_⟩
      go_simp
      exact HK.out _ _ rfl rfB
     ·intro ts W hb hB hp K hK
      simp only [fillT,zA,Nat.reduceAdd,sA,sB,sC] at hK ⊢
      have HK:=hid hK
      clear hK hp
      refine ⟨?_⟩
      go_simp
      exact HK.out _ _ rfl rfB
     ·intro ts W hb hB hp K hK
      simp only [fillT,zA,Nat.reduceAdd,sA,sB,sC] at hK ⊢
      have HK:=hid hK
      clear hK hp
      refine ⟨?_⟩
      go_simp
      exact HK.out _ _ rfl rfB
     ·intro ts W hb hB hp K hK
      simp only [fillT,zA,Nat.reduceAdd,sA,sB,sC] at hK ⊢
      have HK:=hid hK
      clear hK hp
      refine ⟨?_⟩
      go_simp
      exact HK.out _ _ rfl rfB
     ·intro ts W hb hB hp
      have h5:ts 5 = _:=hp 5 kR
      have h6:ts 6 = _:=hp 6 kR
      intro K hK
      simp only [fillT,zA,Nat.reduceAdd,sA,sB,sC,h5,h6] at hK ⊢
      have HK:=hid hK
      clear hK hp
      refine ⟨?_⟩
      go_simp
      exact HK.out _ _ rfl rfB
     ·intro ts W hb hB hp
      have h7:ts 7 = _:=hp 7 kR
      intro K hK
      simp only [fillT,zA,Nat.reduceAdd,sA,sB,sC,h7] at hK ⊢
      have HK:=hid hK
      clear hK hp
      have hcell:=(HM.out.below hb).cell hi
      refine ⟨?_⟩
      go_simp
      exact HK.out _ _ rfl rfB
     ·intro ts W hb hB hp K hK
      simp only [fillT,zA,Nat.reduceAdd,sA,sB,sC] at hK ⊢
      have HK:=hid hK
      clear hK hp
      refine ⟨?_⟩
      go_simp
      exact HK.out _ _ rfl rfB
     ·intro ts W hb hB hp
      have h8:ts 8 = _:=hp 8 kR
      have h9:ts 9 = _:=hp 9 kR
      intro K hK
      simp only [fillT,zA,Nat.reduceAdd,sA,sB,sC,h8,h9] at hK ⊢
      have HK:=hid hK
      clear hK hp
      refine ⟨?_⟩
      go_simp
      exact HK.out _ _ (by simp [kIs,Nat.mul_comm]) rfB
     ·intro ts W hb hB hp
      have h10:ts 10 = _:=hp 10 kR
      intro K hK
      simp only [fillT,zA,Nat.reduceAdd,sA,sB,sC,h10] at hK ⊢
      have HK:=hid hK
      clear hK hp
      refine ⟨?_⟩
      refine wp_load_elem rfl rfl ((HM.out.row hi).below hb) hk (fun v hv=>HK.out _ _ (by rw [clearP_here _ _ _ _ _ _ lR] at hv; exact hv) rfB)
     ·intro ts W hb hB hp
      have h11:IsNum W (ts 11) (F i k):=hp 11 kR
      intro K hK
      simp only [fillT,zA,Nat.reduceAdd,sA,sB,sC] at hK ⊢
      have HK:=hid hK
      clear hK hp
      refine ⟨?_⟩
      go_simp
      exact HK.out _ _ ⟨_,rfl,h11⟩ rfB
     ·intro ts W hb hB hp K hK
      simp only [fillT,zA,Nat.reduceAdd,sA,sB,sC] at hK ⊢
      refine ⟨?_⟩
      refine wp_load_row _ _ rfl (g7) rfl _ _ (0,0) _ ((hb.block _ (z7)).trans X7) Tryz.underlying35 rfl kR ?_
      exact hK _ _ rfl rfB
     ·intro ts W hb hB hp
      have h13:ts 13 = _:=hp 13 kR
      intro K hK
      simp only [fillT,zA,Nat.reduceAdd,sA,sB,sC,h13] at hK ⊢
      have HK:=hid hK
      clear hK hp
      refine ⟨?_⟩
      go_simp
      exact HK.out _ _ ⟨_,rfl,N7.below hb⟩ rfB
     ·intro ts W hb hB hp K hK
      simp only [fillT,zA,Nat.reduceAdd,sA,sB,sC] at hK ⊢
      have HK:=hid hK
      clear hK hp
      refine ⟨?_⟩
      go_simp
      exact HK.out _ _ rfl rfB
     ·intro ts W hb hB hp K hK
      simp only [fillT,zA,Nat.reduceAdd,sA,sB,sC] at hK ⊢
      have HK:=hid hK
      clear hK hp
      refine ⟨?_⟩
      go_simp
      exact HK.out _ _ rfl rfB
     ·intro ts W hb hB hp
      have h15:ts 15 = _:=hp 15 kR
      have h16:ts 16 = _:=hp 16 kR
      intro K hK
      simp only [fillT,zA,Nat.reduceAdd,sA,sB,sC,h15,h16] at hK ⊢
      have HK:=hid hK
      clear hK hp
      refine ⟨?_⟩
      go_simp
      exact HK.out _ _ rfl rfB
     ·intro ts W hb hB hp
      have h17:ts 17 = _:=hp 17 kR
      intro K hK
      simp only [fillT,zA,Nat.reduceAdd,sA,sB,sC,h17] at hK ⊢
      have HK:=hid hK
      clear hK hp
      have hcell:=(HM.out.below hb).cell hr
      refine ⟨?_⟩
      go_simp
      exact HK.out _ _ rfl rfB
     ·intro ts W hb hB hp K hK
      simp only [fillT,zA,Nat.reduceAdd,sA,sB,sC] at hK ⊢
      have HK:=hid hK
      clear hK hp
      refine ⟨?_⟩
      go_simp
      exact HK.out _ _ rfl rfB
     ·intro ts W hb hB hp
      have h18:ts 18 = _:=hp 18 kR
      have h19:ts 19 = _:=hp 19 kR
      intro K hK
      simp only [fillT,zA,Nat.reduceAdd,sA,sB,sC,h18,h19] at hK ⊢
      have HK:=hid hK
      clear hK hp
      refine ⟨?_⟩
      go_simp
      exact HK.out _ _ (by simp [kIs,Nat.mul_comm]) rfB
     ·intro ts W hb hB hp
      have h20:ts 20 = _:=hp 20 kR
      intro K hK
      simp only [fillT,zA,Nat.reduceAdd,sA,sB,sC,h20] at hK ⊢
      have HK:=hid hK
      clear hK hp
      refine ⟨?_⟩
      refine wp_load_elem rfl rfl ((HM.out.row hr).below hb) hk (fun v hv=>HK.out _ _ (by rw [clearP_row] at hv; exact hv) rfB)
     ·intro ts W hb hB hp
      have h14:=hp 14 kR
      have h21:IsNum W (ts 21) (F r k):=hp 21 kR
      intro K hK
      simp only [fillT,zA,Nat.reduceAdd,sA,sB,sC] at hK ⊢
      have HK:=hid hK
      clear hK hp
      obtain ⟨u14,e14,n14⟩:=h14
      refine ⟨?_⟩
      refine wp_invoke rfl (T:=35) (v:=u14) (xs:=#[u14,ts 21]) e14 inv_Mul (by simp [Act.eval]) ?_
      refine (mulN_any u14 (ts 21) ((F i c).div (F r c)) (F r k) W n14 h21 (3 * s + 2) s hf (hS r k hr hk) oM (TB.out.belowB hTB (below_transB KB3.out hb hBr2))).mono ?_
      rintro e W9 ⟨r9,rfl,hr9,hb9⟩
      exact HK.out _ _ hr9 hb9
     ·intro ts W hb hB hp
      have h12:=hp 12 kR
      have h22:IsNum W (ts 22) (((F i c).div (F r c)).mul (F r k)):=hp 22 kR
      intro K hK
      simp only [fillT,zA,Nat.reduceAdd,sA,sB,sC] at hK ⊢
      have HK:=hid hK
      clear hK hp
      obtain ⟨u12,e12,n12⟩:=h12
      refine ⟨?_⟩
      refine wp_invoke rfl (T:=35) (v:=u12) (xs:=#[u12,ts 22]) e12 inv_Sub (by simp [Act.eval]) ?_
      refine (subN_any u12 (ts 22) (F i k) (((F i c).div (F r c)).mul (F r k)) W n12 h22 s (4 * s + 3) (hS i k hi hk) (by have:=hf.mul (hS r k hr hk); exact this.mono oM) oM (TB.out.belowB hTB (below_transB KB3.out hb hBr2))).mono ?_
      rintro e W9 ⟨r9,rfl,hr9,hb9⟩
      exact HK.out _ _ hr9 hb9
     ·intro ts W hb hB hp
      have h3:ts 3 = _:=hp 3 kR
      have h4:ts 4 = _:=hp 4 kR
      intro K hK
      simp only [fillT,zA,Nat.reduceAdd,sA,sB,sC,h3,h4] at hK ⊢
      have HK:=hid hK
      clear hK hp
      refine ⟨?_⟩
      go_simp
      exact HK.out _ _ (by simp [kIs,Nat.mul_comm]) rfB
     intro ts W3 hb3 hh hap K hK
     have h23:IsNum W3 (ts 23) ((F i k).sub (((F i c).div (F r c)).mul (F r k))):=held_num (hh 23 sP) rfl
     have e24:=held_is (hh 24 sP) rfl
     have HK:=hid hK
     clear hK hh hap
     simp only [fillT,zA,Nat.reduceAdd,sA,sB,sC,e24]
     refine ⟨?_⟩
     refine wp_store_elem rfl (k:=k) rfl rfl ((HM.out.row hi).below hb3) hk h23 (fun W4 hbut hext hrow=>HK.out _ _ ?_)
     have M4:=(HM.out.below hb3).set hs hi hbut hext hrow
     rw [clearP_next F r c i k hri hck] at M4
     have X4:=(hbut.other g7 (Ne.symm (HG7.out i hi))).trans ((hb3.block g7 z7).trans X7)
     have N4:=(N7.below hb3).ext hext
     have L4:=hid (hbut.below (below_transB KB3.out hb3 hBr2) (hs.los i hi))
     have K4:=hid M4
     have J4:=hid X4
     have I4:=hid N4
     clear e24 h23 hbut hext hrow M4 X4 N4 hb3 X7 N7 z7
     generalize ts 23 = u23 at *
     go_wp2
     go_roundw
     case rel=>exact ⟨k + 1,by go_num,oM,oM,K4.out,J4.out,I4.out,L4.out⟩
     case measure=>exact mS
    ·obtain rfl:k = m:=oM
     have HM3:=hid (HM.out.congr (F':=clearP F r c (i + 1) 0) fun a b _ hb=>clearP_shut F r c i k a b hb)
     clear X7 N7 z7
     go_wp2
     go_roundw
     case rel=>exact ⟨i + 1,by go_num,oM,oM,HM3.out,KB3.out⟩
     case measure=>exact mS
  ·obtain rfl:i = n:=oM
   go_wp2
   go_end0
   exact ⟨rfl,H.out,KB.out⟩
end Go.Proofs.YtffegeaflohfhaaGreatDoor
