import Derived.Test.YtffegeaflohfhaaGreatDoorS27
import Derived.Test.YtffegeaflohfhaaGreatDoorU27
import Derived.Test.YtffegeaflohfhaaGreatDoorU28
import Derived.Test.YtffegeaflohfhaaGreatDoorS30
import Derived.Test.YtffegeaflohfhaaGreatDoorU15
import Derived.Test.YtffegeaflohfhaaGreatDoorS02
set_option linter.unusedVariables false
set_option linter.unusedSimpArgs false
set_option maxRecDepth 100000
set_option maxHeartbeats 8000000
namespace Go.Proofs.YtffegeaflohfhaaGreatDoor
open Go.RowKit
theorem sm_sz {f:Nat -> Cx} {p:Nat}:∀ (d j:Nat),(∀ i,j <= i -> i < j + d -> Sz (f i) p) -> Sz (sm f j d) (1 + d * (p + 1)):=by
 intro d
 induction d with
 | zero=>intro j _; exact Sz.zero oM
 | succ d ih =>
  intro j h
  have h1:=(h j lR oM).add (ih (j + 1) fun i a b=>h i oM oM)
  refine h1.mono ?_
  rw [Nat.add_mul]; omega
theorem MatAt.setRow {B:Nat} {W W':World} {go:Nat} {gi:Nat -> Nat} {n m:Nat} {F:Nat -> Nat -> Cx} (h:MatAt W go gi n m F) (hs:MatSep B go gi n) {i:Nat} (hi:i < n) {f:Nat -> Cx} (hb:But W W' (gi i)) (he:Ext W W') (hr:NBlk W' (gi i) m f):MatAt W' go gi n m (upf F i f):=by
 obtain ⟨cs,h1,h2,h3,h4⟩:=h
 refine ⟨cs,(hb.other _ (Ne.symm (hs.ne i hi))).trans h1,h2,h3,fun j hj=>?_⟩
 by_cases hji:j = i
 ·subst hji
  rw [upf_same]
  exact hr
 ·rw [upf_other _ _ hji]
  exact (h4 j hj).but hb he fun e=>hji (hs.inj j i hj hi e)
end Go.Proofs.YtffegeaflohfhaaGreatDoor
namespace Go.Proofs.YtffegeaflohfhaaGreatDoor
def bf (n c:Nat) (H:Nat -> Nat -> Cx) (u v:Nat -> Cx):Cx:=sm (fun i=>(u i).conj.mul (sm (fun j=>(H i j).mul (v j)) c (n - c))) c (n - c)
structure Psd (n c:Nat) (H:Nat -> Nat -> Cx):Prop where
 herm:∀ i j,c <= i -> i < n -> c <= j -> j < n -> H i j = (H j i).conj
 pos:∀ w,0 <= (bf n c H w w).re
theorem Cx.conj_conj (x:Cx):x.conj.conj = x:=by apply Cx.ext <;> simp only [Cx.conj] <;> grind
theorem Cx.conj_zero:Cx.zero.conj = .zero:=by apply Cx.ext <;> simp only [Cx.conj,Cx.zero] <;> grind
theorem sm_conj' (f:Nat -> Cx):∀ (d j:Nat),(sm f j d).conj = sm (fun i=>(f i).conj) j d:=by
 intro d
 induction d with
 | zero=>intro j; rw [sm,sm,Cx.conj_zero]
 | succ d ih=>intro j; rw [sm,sm,Cx.conj_add,ih (j + 1)]
theorem sm_at {f:Nat -> Cx} {k:Nat}:∀ (d s:Nat),s <= k -> k < s + d -> (∀ j,s <= j -> j < s + d -> j ≠ k -> f j = .zero) -> sm f s d = f k:=by
 intro d
 induction d with
 | zero=>intro s h1 h2; omega
 | succ d ih =>
  intro s h1 h2 h
  rw [sm]
  by_cases hs:s = k
  ·rw [hs,sm_zero d (k + 1) fun j a b=>h j oM oM oM,Cx.add_zero]
  ·rw [h s lR oM hs,Cx.zero_add]
   exact ih (s + 1) oM oM fun j a b hj=>h j oM oM hj
theorem bf_first {n c:Nat} (hc:c < n) (H:Nat -> Nat -> Cx) (u v:Nat -> Cx):bf n c H u v =
  ((u c).conj.mul (((H c c).mul (v c)).add (sm (fun j=>(H c j).mul (v j)) (c + 1) (n - (c + 1))))).add (sm (fun i=>(u i).conj.mul (((H i c).mul (v c)).add (sm (fun j=>(H i j).mul (v j)) (c + 1) (n - (c + 1))))) (c + 1) (n - (c + 1))):=by
 unfold bf
 rw [show n - c = (n - (c + 1)) + 1 by omega,sm]
 rfl
section
variable {n c:Nat} {H:Nat -> Nat -> Cx} (h:Psd n c H) (hc:c < n)
include h hc
theorem Psd.real:(H c c).im = 0:=by
 have e:=congrArg Cx.im (h.herm c c lR hc lR hc)
 simp only [Cx.conj] at e
 grind
theorem Psd.diag:0 <= (H c c).re:=by
 have e:=h.pos (fun j=>if j = c then .int 1 else .zero)
 rw [bf_first hc] at e
 rw [sm_zero (f:=fun j=>(H c j).mul (if j = c then .int 1 else .zero)) _ _ fun j a b=>by rw [if_neg oM,Cx.mul_zero]] at e
 rw [sm_zero (f:=fun i=>(if i = c then Cx.int 1 else Cx.zero).conj.mul _) _ _ fun j a b=>by rw [if_neg oM,Cx.conj_zero,Cx.zero_mul]] at e
 simp only [if_true,Cx.add_zero,Cx.mul_one] at e
 have e2:(Cx.int 1).conj = .int 1:=by apply Cx.ext <;> simp [Cx.conj,Cx.int]
 rw [e2,Cx.one_mul] at e
 exact e
theorem Psd.next:Psd n (c + 1) H:=by
 refine ⟨fun i j a b a' b'=>h.herm i j oM b oM b',fun w=>?_⟩
 have e:=h.pos (fun j=>if j = c then .zero else w j)
 rw [bf_first hc] at e
 simp only [if_true,Cx.conj_zero,Cx.zero_mul,Cx.zero_add,Cx.mul_zero] at e
 have e2:sm (fun i=>(if i = c then Cx.zero else w i).conj.mul (sm (fun j=>(H i j).mul (if j = c then Cx.zero else w j)) (c + 1) (n - (c + 1)))) (c + 1) (n - (c + 1)) = bf n (c + 1) H w w:=by
  unfold bf
  refine sm_congr _ _ fun i a b=>?_
  rw [if_neg oM]
  congr 1
  exact sm_congr _ _ fun j a b=>by rw [if_neg oM]
 rw [e2] at e
 exact e
theorem Psd.row (h0:H c c = .zero) {k:Nat} (hk:c < k) (hkn:k < n):H c k = .zero:=by
 apply Classical.byContradiction
 intro hz
 have hkc:=h.herm k c oM hkn lR hc
 have hq:(H c k).nrm ≠ 0:=nrm_pos_ne hz
 obtain ⟨z,hzz⟩:∃ z,z = H c k:=⟨_,rfl⟩
 obtain ⟨l,hl⟩:∃ l:Rat,l = ((H k k).re + 1) / (2 * z.nrm):=⟨_,rfl⟩
 obtain ⟨t,ht⟩:∃ t:Cx,t = ⟨-(l * z.re),-(l * z.im)⟩:=⟨_,rfl⟩
 have e:=h.pos (fun j=>if j = c then t else if j = k then .int 1 else .zero)
 rw [bf_first hc] at e
 have s1:∀ i,sm (fun j=>(H i j).mul (if j = c then t else if j = k then Cx.int 1 else Cx.zero)) (c + 1) (n - (c + 1)) = H i k:=fun i=>by
  rw [sm_at (k:=k) _ _ oM oM fun j a b hj=>by rw [if_neg oM,if_neg hj,Cx.mul_zero],if_neg oM,if_pos rfl,Cx.mul_one]
 simp only [s1] at e
 rw [sm_at (k:=k) (n - (c + 1)) (c + 1) oM oM fun j a b hj=>by rw [if_neg oM,if_neg hj,Cx.conj_zero,Cx.zero_mul]] at e
 have nck:¬ (c = k):=oM
 have nkc:¬ (k = c):=oM
 simp only [if_true,if_neg nck,if_neg nkc,h0,hkc,<- hzz,Cx.zero_mul,Cx.zero_add] at e
 rw [<- hzz] at hq
 have hl2:l * (2 * z.nrm) = (H k k).re + 1:=by
  rw [hl]
  grind
 simp only [Cx.add,Cx.mul,Cx.conj,Cx.int,ht] at e
 unfold Cx.nrm at hl2
 have e1:(((1:Int):Rat)) = 1:=rfl
 rw [e1] at e
 grind
theorem Psd.clear (h0:0 < (H c c).re):Psd n (c + 1) (clearF H c c n):=by
 have hne:H c c ≠ .zero:=fun e=>by rw [e] at h0; simp [Cx.zero] at h0
 have hre:(H c c).conj = H c c:=(h.herm c c lR hc lR hc).symm
 have hdc:∀ x:Cx,(x.div (H c c)).conj = x.conj.div (H c c):=fun x=>by
  have him:=h.real hc
  apply Cx.ext <;> simp only [Cx.div,Cx.mul,Cx.inv,Cx.conj,him] <;> grind
 refine ⟨fun i j a b a' b'=>?_,fun w=>?_⟩
 ·rw [clear_low i j oM b oM,clear_low j i oM b' oM]
  have e1:=h.herm i j oM b oM b'
  have e2:=h.herm i c oM b lR hc
  have e3:=h.herm j c oM b' lR hc
  have hsub:∀ x y:Cx,(x.sub y).conj = x.conj.sub y.conj:=fun x y=>by apply Cx.ext <;> simp only [Cx.sub,Cx.conj] <;> grind
  rw [hsub,<- e1,Cx.conj_mul,hdc,e3,Cx.conj_conj,<- e2]
  congr 1
  rw [Cx.div,Cx.div]
  generalize (H c c).inv = q
  generalize H c j = x
  generalize H i c = y
  apply Cx.ext <;> simp only [Cx.mul] <;> grind
 ·obtain ⟨s,hs⟩:∃ s,s = sm (fun j=>(H c j).mul (w j)) (c + 1) (n - (c + 1)):=⟨_,rfl⟩
  have e:=h.pos (fun j=>if j = c then (s.div (H c c)).neg else w j)
  rw [bf_first hc] at e
  have s1:∀ i,sm (fun j=>(H i j).mul (if j = c then (s.div (H c c)).neg else w j)) (c + 1) (n - (c + 1)) = sm (fun j=>(H i j).mul (w j)) (c + 1) (n - (c + 1)):=fun i=>sm_congr _ _ fun j a b=>by rw [if_neg oM]
  simp only [s1,if_true] at e
  rw [<- hs] at e
  have e0:((H c c).mul (s.div (H c c)).neg).add s = .zero:=by
   have:=Cx.div_mul' s hne
   rw [Cx.mul_comm] at this
   have hneg:(H c c).mul (s.div (H c c)).neg = ((H c c).mul (s.div (H c c))).neg:=by apply Cx.ext <;> simp only [Cx.mul,Cx.neg] <;> grind
   rw [hneg,this]
   apply Cx.ext <;> simp only [Cx.add,Cx.neg,Cx.zero] <;> grind
  rw [e0,Cx.mul_zero,Cx.zero_add] at e
  have e2:sm (fun i=>(if i = c then (s.div (H c c)).neg else w i).conj.mul (((H i c).mul (s.div (H c c)).neg).add (sm (fun j=>(H i j).mul (w j)) (c + 1) (n - (c + 1))))) (c + 1) (n - (c + 1)) = bf n (c + 1) (clearF H c c n) w w:=by
   unfold bf
   refine sm_congr _ _ fun i a b=>?_
   rw [if_neg oM]
   congr 1
   have e3:sm (fun j=>(clearF H c c n i j).mul (w j)) (c + 1) (n - (c + 1)) = (sm (fun j=>(H i j).mul (w j)) (c + 1) (n - (c + 1))).sub (((H i c).div (H c c)).mul s):=by
    rw [hs,<- sm_subc]
    refine sm_congr _ _ fun j a' b'=>?_
    rw [clear_low i j oM oM oM]
    generalize (H i c).div (H c c) = q
    apply Cx.ext <;> simp only [Cx.sub,Cx.mul] <;> grind
   rw [e3]
   have e4:(H i c).mul (s.div (H c c)) = ((H i c).div (H c c)).mul s:=by
    rw [Cx.div,Cx.div,Cx.mul_assoc,Cx.mul_comm s]
   have e5:(H i c).mul (s.div (H c c)).neg = ((H i c).mul (s.div (H c c))).neg:=by apply Cx.ext <;> simp only [Cx.mul,Cx.neg] <;> grind
   rw [e5,e4]
   generalize ((H i c).div (H c c)).mul s = q
   apply Cx.ext <;> simp only [Cx.sub,Cx.add,Cx.neg] <;> grind
  rw [e2] at e
  exact e
end
theorem rat_sq (x:Rat):0 <= x * x:=by
 rcases Rat.le_total (a:=0) (b:=x) with h | h
 ·exact Rat.mul_nonneg h h
 ·have h1:0 <= -x:=by grind
  have:=Rat.mul_nonneg h1 h1
  grind
theorem bf_herm {n:Nat} {S:Nat -> Nat -> Cx} (hS:Psd n 0 S) (u v:Nat -> Cx):bf n 0 S u v = (bf n 0 S v u).conj:=by
 unfold bf
 rw [Nat.sub_zero,sm_conj']
 have e1:∀ i,((v i).conj.mul (sm (fun j=>(S i j).mul (u j)) 0 n)).conj = sm (fun j=>(v i).mul ((S i j).conj.mul (u j).conj)) 0 n:=fun i=>by
  rw [Cx.conj_mul,Cx.conj_conj,sm_conj',<- sm_mul]
  exact sm_congr _ _ fun j _ _=>by rw [Cx.conj_mul]
 simp only [e1]
 rw [sm_swap]
 refine sm_congr _ _ fun i _ hi=>?_
 rw [<- sm_mul]
 refine sm_congr _ _ fun j _ hj=>?_
 rw [hS.herm i j oM oM oM oM]
 generalize (S j i).conj = s
 apply Cx.ext <;> simp only [Cx.mul,Cx.conj] <;> grind
end Go.Proofs.YtffegeaflohfhaaGreatDoor
namespace Go.Proofs.YtffegeaflohfhaaGreatDoor
open Go.RowKit
theorem firstClearN_none (w:World) (g n c:Nat) (f:Nat -> Cx) (hX:NBlk w g n f) (hn:n <= 1073741824) (hc:c <= n) (hz:∀ k,c <= k -> k < n -> f k = .zero) :
  Calls Tryz.prog 89 #[.slice (some ⟨g,0,none⟩) n n,.int .i64 c] w fun e w'=>e = .returned (.int .i64 (-1)) /\ Below w.heap.size w w':=by
 have HX0:=hid hX
 have HZ:=hid hz
 clear hX hz
 go_enter Tryz.func89,Tryz.ntmps89
 go_wp2
 go_loopw [5] (fun j wr=>∃ k:Nat,j = .int .i64 k /\ c <= k /\ k <= n /\ Below w.heap.size w wr) (fun j _=>n - (intOf j).toNat)
 case atStart=>exact ⟨c,rfl,oM,hc,Below.refl _ _⟩
 case round =>
  obtain ⟨k,rfl,hfk,hkn,hB⟩:=hrel
  have KB:=hid hB
  have HX:=hid (HX0.out.below hB)
  clear hB
  by_cases hk:k < n
  ·go_upto_region 4 with fail
   refine region_lin [.val (kIs (.slice (some ⟨g,0,none⟩) n n)),.val (kIs (.int .i64 (k:Int))),.val (kIs (.pointer (some ⟨g,5 * k,none⟩))),.val (kNum (f k)),.val (kIs (.bool false))]
    kR kR kR kR kR ⟨Stab.b (stab_is _),Stab.b (stab_is _),Stab.b (stab_is _),Stab.b (stab_num _),Stab.b (stab_is _),trivial⟩ sP ⟨?_,?_,?_,?_,?_,trivial⟩ ?_
   ·exact obp
   ·exact obp
   ·intro ts W hb hB hp; have h0:ts 0 = _:=hp 0 kR; have h1:ts 1 = _:=hp 1 kR; intro K hK; simp only [fillT,zA,Nat.reduceAdd,sA,sB,sC,h0,h1] at hK ⊢; have HK:=hid hK; clear hK hp; refine ⟨?_⟩; go_simp; exact HK.out _ _ (by simp [kIs,Nat.mul_comm]) rfB
   ·intro ts W hb hB hp; have h2:ts 2 = _:=hp 2 kR; intro K hK; simp only [fillT,zA,Nat.reduceAdd,sA,sB,sC,h2] at hK ⊢; have HK:=hid hK; clear hK hp; refine ⟨?_⟩; refine wp_load_elem rfl rfl (HX.out.below hb) hk (fun v hv=>HK.out _ _ (hv) rfB)
   ·intro ts W hb hB hp; have h3:IsNum W (ts 3) (f k):=hp 3 kR; intro K hK; simp only [fillT,zA,Nat.reduceAdd,sA,sB,sC] at hK ⊢; have HK:=hid hK; clear hK hp; refine ⟨?_⟩; go_simp; refine (clearN_k _ (f k) W h3 (clear_f (HZ.out k hfk hk))).mono ?_; rintro e W9 ⟨rfl,hb9⟩; exact HK.out _ _ rfl hb9
   intro ts W2 hb2 hh hap
   have e4:=held_is (hh 4 sP) rfl
   simp only [fillT,zA,Nat.reduceAdd,sA,sB,sC,e4]
   clear hh hap e4
   generalize ts 0 = u0_W2 at *
   generalize ts 1 = u1_W2 at *
   generalize ts 2 = u2_W2 at *
   generalize ts 3 = u3_W2 at *
   clear ts
   have KB2:=hid (bT KB.out hb2)
   clear hb2 HX KB
   go_wp2
   go_roundw
   case rel=>exact ⟨k + 1,by go_num,oM,oM,KB2.out⟩
   case measure=>exact mS
  ·obtain rfl:n = k:=oM
   go_wp2
   go_ret
   exact ⟨rfl,KB.out⟩
theorem squareN_sq (w:World) (go:Nat) (gi:Nat -> Nat) (n:Nat) (F:Nat -> Nat -> Cx) (h:MatAt w go gi n n F) (hn1:n <= 32) :
  Calls Tryz.prog 43 #[.slice (some ⟨go,0,none⟩) n n] w fun e w'=>e = .returned (.bool true) /\ Below w.heap.size w w':=by
 rcases Nat.eq_zero_or_pos n with h0 | h0
 ·subst h0
  exact squareN_nil w _ _
 ·have:=squareN_rect w go gi n n F h h0 hn1 hn1
  have hd:decide (n = n) = true:=sP
  rwa [hd] at this
end Go.Proofs.YtffegeaflohfhaaGreatDoor
