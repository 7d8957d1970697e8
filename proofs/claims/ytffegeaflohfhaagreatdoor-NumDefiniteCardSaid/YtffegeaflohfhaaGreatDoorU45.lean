import Derived.Test.YtffegeaflohfhaaGreatDoorU39
import Derived.Test.YtffegeaflohfhaaGreatDoorU44
import Derived.Test.YtffegeaflohfhaaGreatDoorU15
import Derived.Test.YtffegeaflohfhaaGreatDoorU27
import Derived.Test.YtffegeaflohfhaaGreatDoorU35
import Derived.Test.YtffegeaflohfhaaGreatDoorU36
import Derived.Test.YtffegeaflohfhaaGreatDoorS02
set_option linter.unusedVariables false
set_option linter.unusedSimpArgs false
set_option maxRecDepth 100000
set_option maxHeartbeats 8000000
namespace Go.Proofs.YtffegeaflohfhaaGreatDoor
def Hm (n c:Nat) (H:Nat -> Nat -> Cx):Prop:=∀ i j,c <= i -> i < n -> c <= j -> j < n -> H i j = (H j i).conj
theorem Hm.real {n c:Nat} {H:Nat -> Nat -> Cx} (h:Hm n c H) {k:Nat} (hk:c <= k) (hkn:k < n):(H k k).im = 0:=by
 have e:=congrArg Cx.im (h k k hk hkn hk hkn)
 simp only [Cx.conj] at e
 grind
theorem Hm.next {n c:Nat} {H:Nat -> Nat -> Cx} (h:Hm n c H):Hm n (c + 1) H:=fun i j a b a' b'=>h i j oM b oM b'
theorem Hm.clear {n c:Nat} {H:Nat -> Nat -> Cx} (h:Hm n c H) (hc:c < n):Hm n (c + 1) (clearF H c c n):=fun i j a b a' b'=>by
 have him:=h.real (Nat.le_refl c) hc
 have hdc:∀ x:Cx,(x.div (H c c)).conj = x.conj.div (H c c):=fun x=>by
  apply Cx.ext <;> simp only [Cx.div,Cx.mul,Cx.inv,Cx.conj,him] <;> grind
 rw [clear_low i j oM b oM,clear_low j i oM b' oM]
 have e1:=h i j oM b oM b'
 have e2:=h i c oM b lR hc
 have e3:=h j c oM b' lR hc
 have hsub:∀ x y:Cx,(x.sub y).conj = x.conj.sub y.conj:=fun x y=>by apply Cx.ext <;> simp only [Cx.sub,Cx.conj] <;> grind
 rw [hsub,<- e1,Cx.conj_mul,hdc,e3,Cx.conj_conj,<- e2]
 congr 1
 rw [Cx.div,Cx.div]
 generalize (H c c).inv = q
 generalize H c j = x
 generalize H i c = y
 apply Cx.ext <;> simp only [Cx.mul] <;> grind
def sqU (n c:Nat) (H:Nat -> Nat -> Cx) (w:Nat -> Cx):Cx:=(w c).add ((sm (fun j=>(H c j).mul (w j)) (c + 1) (n - (c + 1))).div (H c c))
theorem bf_clear {n c:Nat} {H:Nat -> Nat -> Cx} (h:Hm n c H) (hc:c < n) (h0:H c c ≠ .zero) (w:Nat -> Cx) :
  bf n c H w w = ((H c c).mul ((sqU n c H w).conj.mul (sqU n c H w))).add (bf n (c + 1) (clearF H c c n) w w):=by
 obtain ⟨s,hs⟩:∃ s,s = sm (fun j=>(H c j).mul (w j)) (c + 1) (n - (c + 1)):=⟨_,rfl⟩
 obtain ⟨u,hu⟩:∃ u,u = sqU n c H w:=⟨_,rfl⟩
 have hu1:u = (w c).add (s.div (H c c)):=by rw [hu,hs]; rfl
 have him:=h.real (Nat.le_refl c) hc
 have e0:((H c c).mul (w c)).add s = (H c c).mul u:=by
  have:=Cx.div_mul' s h0
  rw [hu1]
  have e:(H c c).mul ((w c).add (s.div (H c c))) = ((H c c).mul (w c)).add ((s.div (H c c)).mul (H c c)):=by
   generalize s.div (H c c) = q
   apply Cx.ext <;> simp only [Cx.mul,Cx.add] <;> grind
  rw [e,this]
 have row:∀ i,c + 1 <= i -> i < n -> ((H i c).mul (w c)).add (sm (fun j=>(H i j).mul (w j)) (c + 1) (n - (c + 1))) = (sm (fun j=>(clearF H c c n i j).mul (w j)) (c + 1) (n - (c + 1))).add ((H i c).mul u):=fun i a b=>by
  have e3:sm (fun j=>(clearF H c c n i j).mul (w j)) (c + 1) (n - (c + 1)) = (sm (fun j=>(H i j).mul (w j)) (c + 1) (n - (c + 1))).sub (((H i c).div (H c c)).mul s):=by
   rw [hs,<- sm_subc]
   refine sm_congr _ _ fun j a' b'=>?_
   rw [clear_low i j oM oM oM]
   generalize (H i c).div (H c c) = q
   apply Cx.ext <;> simp only [Cx.sub,Cx.mul] <;> grind
  have e4:(H i c).mul u = ((H i c).mul (w c)).add (((H i c).div (H c c)).mul s):=by
   rw [hu1,Cx.div,Cx.div]
   generalize (H c c).inv = q
   apply Cx.ext <;> simp only [Cx.mul,Cx.add] <;> grind
  rw [e3,e4]
  generalize ((H i c).div (H c c)).mul s = q
  apply Cx.ext <;> simp only [Cx.sub,Cx.add] <;> grind
 rw [bf_first hc,<- hs,e0,<- hu]
 rw [sm_congr (g:=fun i=>((w i).conj.mul (sm (fun j=>(clearF H c c n i j).mul (w j)) (c + 1) (n - (c + 1)))).add (u.mul ((w i).conj.mul (H i c)))) _ _ fun i a b=>by
  rw [row i a oM]
  generalize sm (fun j=>(clearF H c c n i j).mul (w j)) (c + 1) (n - (c + 1)) = q
  apply Cx.ext <;> simp only [Cx.mul,Cx.add] <;> grind]
 rw [sm_add,sm_mul]
 have e5:sm (fun i=>(w i).conj.mul (H i c)) (c + 1) (n - (c + 1)) = s.conj:=by
  rw [hs,sm_conj']
  refine sm_congr _ _ fun i a b=>?_
  rw [h i c oM oM lR hc,Cx.conj_mul,Cx.mul_comm]
 have e6:s.conj = ((H c c).mul (u.sub (w c))).conj:=by
  congr 1
  have:=Cx.div_mul' s h0
  rw [hu1]
  generalize s.div (H c c) = q at this ⊢
  rw [<- this]
  apply Cx.ext <;> simp only [Cx.mul,Cx.sub,Cx.add] <;> grind
 rw [e5,e6]
 show _ = Cx.add _ (bf n (c + 1) (clearF H c c n) w w)
 unfold bf
 generalize sm _ (c + 1) (n - (c + 1)) = q
 generalize H c c = d at *
 apply Cx.ext <;> simp only [Cx.mul,Cx.add,Cx.sub,Cx.conj,him] <;> grind
theorem bf_none {n c:Nat} {H:Nat -> Nat -> Cx} (h:Hm n c H) (hc:c < n) (h0:∀ k,c <= k -> k < n -> H c k = .zero) (w:Nat -> Cx):bf n c H w w = bf n (c + 1) H w w:=by
 rw [bf_first hc,h0 c lR hc,Cx.zero_mul,Cx.zero_add]
 rw [sm_zero (f:=fun j=>(H c j).mul (w j)) _ _ fun j a b=>by rw [h0 j oM oM,Cx.zero_mul],Cx.mul_zero,Cx.zero_add]
 unfold bf
 refine sm_congr _ _ fun i a b=>?_
 rw [h i c oM oM lR hc,h0 i oM oM,Cx.conj_zero,Cx.zero_mul,Cx.zero_add]
def Go1 (n c:Nat) (H:Nat -> Nat -> Cx):Prop:=(∀ k,c <= k -> k < n -> H c k = .zero) ∨ 0 < (H c c).re
def nxt (n c:Nat) (H:Nat -> Nat -> Cx):Nat -> Nat -> Cx:=if H c c = .zero then H else clearF H c c n
theorem pos_ne {x:Cx} (h:0 < x.re):x ≠ .zero:=fun e=>by rw [e] at h; simp [Cx.zero] at h
theorem nxt_hm {n c:Nat} {H:Nat -> Nat -> Cx} (h:Hm n c H) (hc:c < n):Hm n (c + 1) (nxt n c H):=by
 unfold nxt
 split
 ·exact h.next
 ·exact h.clear hc
theorem nxt_psd {n c:Nat} {H:Nat -> Nat -> Cx} (h:Hm n c H) (hc:c < n) (hg:Go1 n c H):Psd n c H ↔ Psd n (c + 1) (nxt n c H):=by
 unfold nxt
 rcases hg with h0 | h0
 ·rw [if_pos (h0 c lR hc)]
  exact ⟨fun hp=>hp.next hc,fun hp=>⟨h,fun w=>by rw [bf_none h hc h0]; exact hp.pos w⟩⟩
 ·rw [if_neg (pos_ne h0)]
  refine ⟨fun hp=>hp.clear hc h0,fun hp=>⟨h,fun w=>?_⟩⟩
  rw [bf_clear h hc (pos_ne h0)]
  have h1:=hp.pos w
  have him:=h.real (Nat.le_refl c) hc
  generalize sqU n c H w = u
  have h2:=Rat.mul_nonneg (Rat.le_of_lt h0) (show 0 <= u.re * u.re + u.im * u.im from by
   have a:=rat_sq u.re
   have b:=rat_sq u.im
   grind)
  simp only [Cx.add,Cx.mul,Cx.conj,him]
  grind
def sch (n:Nat) (F:Nat -> Nat -> Cx):Nat -> Nat -> Nat -> Cx
 | 0=>F
 | c + 1=>nxt n c (sch n F c)
theorem nxt_row {n c:Nat} {H:Nat -> Nat -> Cx} {i:Nat} (hi:i <= c) (j:Nat):nxt n c H i j = H i j:=by
 unfold nxt
 split
 ·rfl
 ·exact clear_row i j hi
theorem sch_row {n:Nat} {F:Nat -> Nat -> Cx} {i:Nat}:∀ c,i <= c -> ∀ j,sch n F c i j = sch n F i i j:=by
 intro c
 induction c with
 | zero => intro h j; obtain rfl : i = 0 := oM
           rfl
 | succ c ih =>
  intro h j
  by_cases e:i = c + 1
  ·rw [e]
  ·rw [sch,nxt_row oM]
   exact ih oM j
theorem sch_hm {n:Nat} {F:Nat -> Nat -> Cx} (h:Hm n 0 F):∀ c,c <= n -> Hm n c (sch n F c):=by
 intro c
 induction c with
 | zero=>intro _; exact h
 | succ c ih=>intro hc; exact nxt_hm (ih oM) oM
def Came (n c:Nat) (F:Nat -> Nat -> Cx):Prop:=∀ i,i < c -> Go1 n i (sch n F i)
theorem sch_psd {n:Nat} {F:Nat -> Nat -> Cx} (h:Hm n 0 F):∀ c,c <= n -> Came n c F -> (Psd n 0 F ↔ Psd n c (sch n F c)):=by
 intro c
 induction c with
 | zero=>intro _ _; exact Iff.rfl
 | succ c ih =>
  intro hc hg
  exact (ih oM fun i hi=>hg i oM).trans (nxt_psd (sch_hm h c oM) oM (hg c oM))
def cmp1 (n i:Nat) (R:Nat -> Nat -> Cx) (w:Nat -> Cx):Nat -> Cx:=if R i i = .zero then w else upf w i ((sm (fun j=>(R i (i + 1 + j)).mul (w (i + 1 + j))) 0 (n - (i + 1))).neg.div (R i i))
def cmpV (n c:Nat) (R:Nat -> Nat -> Cx) (w:Nat -> Cx):Nat -> Nat -> Cx
 | 0=>w
 | t + 1=>cmp1 n (c - 1 - t) R (cmpV n c R w t)
theorem sm_shift (f:Nat -> Cx):∀ (d j:Nat),sm f j d = sm (fun i=>f (j + i)) 0 d:=by
 intro d
 induction d with
 | zero=>intro j; rfl
 | succ d ih =>
  intro j
  rw [sm_last,sm_last,ih j,Nat.zero_add]
theorem bf_tail {n c:Nat} {H:Nat -> Nat -> Cx} {u v:Nat -> Cx} (h:∀ j,c <= j -> u j = v j):bf n c H u u = bf n c H v v:=by
 unfold bf
 refine sm_congr _ _ fun i a _=>?_
 rw [h i a]
 congr 1
 exact sm_congr _ _ fun j a _=>by rw [h j a]
theorem bf_cmp {n:Nat} {F:Nat -> Nat -> Cx} (h:Hm n 0 F) {c:Nat} (hc:c <= n) (hg:Came n c F) (w:Nat -> Cx):∀ t,t <= c -> bf n (c - t) (sch n F (c - t)) (cmpV n c (sch n F c) w t) (cmpV n c (sch n F c) w t) = bf n c (sch n F c) w w:=by
 intro t
 induction t with
 | zero=>intro _; rfl
 | succ t ih =>
  intro ht
  rw [<- ih oM]
  obtain ⟨i,hi⟩:∃ i,i = c - (t + 1):=⟨_,rfl⟩
  have h1:c - t = i + 1:=oM
  rw [cmpV,show c - 1 - t = i by omega,<- hi,h1,sch]
  generalize cmpV n c (sch n F c) w t = v
  have hr:∀ j,sch n F c i j = sch n F i i j:=sch_row c oM
  unfold cmp1
  simp only [hr]
  have hm:=sch_hm h i oM
  rcases hg i oM with h0 | h0
  ·have hz:=h0 i lR oM
   rw [if_pos hz,bf_none hm oM h0,nxt,if_pos hz]
  ·rw [if_neg (pos_ne h0),bf_clear hm oM (pos_ne h0),nxt,if_neg (pos_ne h0)]
   generalize sch n F i = H at *
   obtain ⟨s,hs⟩:∃ s,s = sm (fun j=>(H i (i + 1 + j)).mul (v (i + 1 + j))) 0 (n - (i + 1)):=⟨_,rfl⟩
   rw [<- hs]
   have hu:sqU n i H (upf v i (s.neg.div (H i i))) = .zero:=by
    unfold sqU
    rw [upf_same,sm_congr (g:=fun j=>(H i j).mul (v j)) _ _ fun j a _=>by rw [upf_other _ _ oM],sm_shift,<- hs,Cx.div,Cx.div]
    generalize (H i i).inv = q
    apply Cx.ext <;> simp only [Cx.mul,Cx.add,Cx.neg,Cx.zero] <;> grind
   rw [hu,Cx.conj_zero,Cx.zero_mul,Cx.mul_zero,Cx.zero_add]
   exact bf_tail fun j hj=>upf_other _ _ oM
theorem cmp_all {n:Nat} {F:Nat -> Nat -> Cx} (h:Hm n 0 F) {c:Nat} (hc:c <= n) (hg:Came n c F) (w:Nat -> Cx):bf n 0 F (cmpV n c (sch n F c) w c) (cmpV n c (sch n F c) w c) = bf n c (sch n F c) w w:=by
 have:=bf_cmp h hc hg w c lR
 rwa [Nat.sub_self] at this
def unitV (c:Nat):Nat -> Cx:=fun j=>if j = c then .int 1 else .zero
theorem bf_unit {n c:Nat} (hc:c < n) (H:Nat -> Nat -> Cx):bf n c H (unitV c) (unitV c) = H c c:=by
 unfold unitV
 rw [bf_first hc]
 rw [sm_zero (f:=fun j=>(H c j).mul (if j = c then .int 1 else .zero)) _ _ fun j a b=>by rw [if_neg oM,Cx.mul_zero]]
 rw [sm_zero (f:=fun i=>(if i = c then Cx.int 1 else Cx.zero).conj.mul _) _ _ fun j a b=>by rw [if_neg oM,Cx.conj_zero,Cx.zero_mul]]
 simp only [if_true,Cx.add_zero,Cx.mul_one]
 have e2:(Cx.int 1).conj = .int 1:=by apply Cx.ext <;> simp [Cx.conj,Cx.int]
 rw [e2,Cx.one_mul]
def tilt (z t:Cx):Cx:=((((Cx.int 1).add (t.mul t)).div z.norm).mul z).neg
def tiltV (c k:Nat) (x:Cx):Nat -> Cx:=fun j=>if j = k then .int 1 else if j = c then x else .zero
theorem bf_tilt {n c k:Nat} {H:Nat -> Nat -> Cx} (h:Hm n c H) (hc:c < n) (h0:H c c = .zero) (hk:c < k) (hkn:k < n) (hz:H c k ≠ .zero) :
  (bf n c H (tiltV c k (tilt (H c k) (H k k))) (tiltV c k (tilt (H c k) (H k k)))).im = 0 /\ (bf n c H (tiltV c k (tilt (H c k) (H k k))) (tiltV c k (tilt (H c k) (H k k)))).re < 0:=by
 have hkc:=h k c oM hkn lR hc
 have hkk:=h.real (by omega:c <= k) hkn
 have hq:(H c k).nrm ≠ 0:=nrm_pos_ne hz
 generalize hx:tilt (H c k) (H k k) = x
 unfold tiltV
 rw [bf_first hc]
 have s1:∀ i,sm (fun j=>(H i j).mul (if j = k then Cx.int 1 else if j = c then x else Cx.zero)) (c + 1) (n - (c + 1)) = H i k:=fun i=>by
  rw [sm_at (k:=k) _ _ oM oM fun j a b hj=>by rw [if_neg hj,if_neg oM,Cx.mul_zero],if_pos rfl,Cx.mul_one]
 simp only [s1]
 rw [sm_at (k:=k) (n - (c + 1)) (c + 1) oM oM fun j a b hj=>by rw [if_neg hj,if_neg oM,Cx.conj_zero,Cx.zero_mul]]
 have nck:¬ (c = k):=oM
 simp only [if_true,if_neg nck,h0,hkc,Cx.zero_mul,Cx.zero_add]
 rw [<- hx]
 generalize H c k = z at *
 generalize H k k = t at *
 have e1:(((1:Int):Rat)) = 1:=rfl
 obtain ⟨l,hl⟩:∃ l:Rat,l = (1 + t.re * t.re) / z.nrm:=⟨_,rfl⟩
 have hl2:l * z.nrm = 1 + t.re * t.re:=by rw [hl]; grind
 have ht:tilt z t = ⟨-(l * z.re),-(l * z.im)⟩:=by
  unfold tilt
  have en:z.norm.nrm = z.nrm * z.nrm:=by unfold Cx.norm; simp only [Cx.nrm]; grind
  have e2:((Cx.int 1).add (t.mul t)).div z.norm = ⟨l,0⟩:=by
   apply Cx.ext
   ·simp only [Cx.div,Cx.mul,Cx.inv,Cx.add,Cx.int,hkk,en,e1]
    rw [hl]
    simp only [Cx.norm]
    grind
   ·simp only [Cx.div,Cx.mul,Cx.inv,Cx.add,Cx.int,hkk,en]
    simp only [Cx.norm]
    grind
  rw [e2]
  apply Cx.ext <;> simp only [Cx.mul,Cx.neg] <;> grind
 have hsq:=rat_sq (t.re - 1)
 have hsq2:=rat_sq t.re
 unfold Cx.nrm at hl2
 rw [ht]
 constructor
 ·simp only [Cx.add,Cx.mul,Cx.conj,Cx.int,hkk,e1]
  grind
 ·simp only [Cx.add,Cx.mul,Cx.conj,Cx.int,hkk,e1]
  grind
theorem psd_last (n:Nat) (H:Nat -> Nat -> Cx):Psd n n H:=⟨fun i j a b=>oM,fun w=>by unfold bf; rw [Nat.sub_self]; exact Rat.le_refl⟩
end Go.Proofs.YtffegeaflohfhaaGreatDoor
namespace Go.Proofs.YtffegeaflohfhaaGreatDoor
open Go.RowKit
theorem formN_ok (w:World) (ga gb:Nat) (gi:Nat -> Nat) (n p:Nat) (F:Nat -> Nat -> Cx) (b:Nat -> Cx) (hA:MatAt w ga gi n n F) (hB:NBlk w gb n b) (hn:n <= 5) (hT:Tab w) (hF:∀ i k,i < n -> k < n -> Sz (F i k) p) (hb:∀ i,i < n -> Sz (b i) p) (hp:p <= 10000000) :
  Calls Tryz.prog 33 #[.slice (some ⟨ga,0,none⟩) n n,.slice (some ⟨gb,0,none⟩) n n] w (RetNumE w (bf n 0 F b b) 0):=by
 obtain ⟨D,hD⟩:∃ D,D = mulV n F b:=⟨_,rfl⟩
 obtain ⟨S,hS⟩:∃ S:Nat -> Cx,S = sm (fun i=>(b i).conj.mul (D i)) 0:=⟨_,rfl⟩
 rw [show bf n 0 F b b = S n by rw [hS,hD]; rfl]
 have HS0:=hid (show S 0 = .zero by rw [hS]; rfl)
 have HSN:=hid (fun i=>show S (i + 1) = (S i).add ((b i).conj.mul (D i)) by rw [hS,sm_last,Nat.zero_add])
 have hDS:∀ i,i < n -> Sz (D i) (10 * p + 11):=fun i hi=>by
  rw [hD]
  refine (sm_sz (p:=p + p + 1) n 0 fun j _ hj=>(hF i j hi oM).mul (hb j oM)).mono ?_
  have:=Nat.mul_le_mul_right (p + p + 1 + 1) hn
  omega
 have hSS:∀ i,i < n -> Sz (S i) (60 * p + 100):=fun i hi=>by
  rw [hS]
  refine (sm_sz (p:=11 * p + 12) i 0 fun j _ hj=>((hb j oM).conj.mul (hDS j oM)).mono oM).mono ?_
  have:=Nat.mul_le_mul_right (11 * p + 12 + 1) (show i <= 5 by omega)
  omega
 have HAD:=hid (fun i (hi:i < n) W (hb':Below w.heap.size w W) v u (k1:IsNum W v (S i)) (k2:IsNum W u ((b i).conj.mul (D i)))=>addN_any v u _ _ W k1 k2 _ _ (hSS i hi) ((hb i hi).conj.mul (hDS i hi)) oM (hT.below hb'))
 have HMU:=hid (fun i (hi:i < n) W (hb':Below w.heap.size w W) v u (k1:IsNum W v (b i).conj) (k2:IsNum W u (D i))=>mulN_any v u _ _ W k1 k2 _ _ (hb i hi).conj (hDS i hi) oM (hT.below hb'))
 have HDT:=hid (fun W (hb':Below w.heap.size w W) i (hi:i < n) {g} (h:NBlk W g n (F i))=>show Calls Tryz.prog 70 #[.slice (some ⟨g,0,none⟩) n n,.slice (some ⟨gb,0,none⟩) n n] W (RetNum W (D i)) from by rw [hD]; exact dot0_any W g gb n p _ _ h (hB.below hb') oM (hT.below hb') (fun k hk=>hF i k hi hk) hb oM)
 have HCJ:=hid (fun W v {x} (h:IsNum W v x)=>conjN_any v x W h)
 have HQ:=hid (fun W (hb':Below w.heap.size w W)=>squareN_all W _ n _ F ((hA.below hb').nss' n) oM fun _ _=>oM)
 have HV:=hid (show Sqr n (fun _=>n) from ⟨⟨oM,fun _ _=>⟨rfl,show n <= 32 by omega⟩⟩,by unfold colsOf; split <;> first | assumption | rfl⟩)
 have HA0:=hid hA
 have HB0:=hid hB
 have hga:=hA.lt
 have hgb:=hB.lt
 have hne0:((n:Int) != (n:Int)) = false:=sP
 clear hA hB hF hb hT hS hD hDS hSS
 go_enter Tryz.func33,Tryz.ntmps33
 go_upto_region 1 with fail
 obtain ⟨W1,hW1⟩:∃ W1:World,W1 = w.alloc (.cells zNum 35):=⟨_,rfl⟩
 have HB1:=hid (show Below w.heap.size w W1 by rw [hW1]; exact below_alloc _ _)
 have z1:W1.heap.size = w.heap.size + 1:=by rw [hW1]; simp
 have HX0:=hid (show W1.heap[w.heap.size]? = some (.cells zNum 35 (0,0)) by rw [hW1]; exact heap_alloc_new _ _)
 unfold zNum at hW1
 rw [<- hW1]
 clear hW1
 go_wp2_with fail
 refine (HQ.out W1 HB1.out).mono ?_
 rintro e W2 ⟨bb,rfl,q1,hB⟩
 obtain rfl:bb = true:=q1.2 HV.out
 have K2:=hid hB
 clear q1 hB HQ HV
 go_upto_region 4 with fail
 obtain ⟨W3,hW3⟩:∃ W3:World,W3 = W2.alloc (.cells zNum 35):=⟨_,rfl⟩
 have z2:W1.heap.size <= W2.heap.size:=K2.out.size
 have HB3:=hid (show Below W1.heap.size W1 W3 by rw [hW3]; exact bT K2.out (below_alloc _ _))
 have z3:W3.heap.size = W2.heap.size + 1:=by rw [hW3]; simp
 have X3:W3.heap[W2.heap.size]? = some (.cells zNum 35 (0,0)):=by rw [hW3]; exact heap_alloc_new _ _
 have HS1:=hid (show NBlk W3 W2.heap.size 1 (fun _=>S 0) by rw [HS0.out]; exact NBlk.one' X3 (IsNum.zero W3))
 unfold zNum at hW3
 rw [<- hW3]
 obtain ⟨g5,hg5⟩:∃ g5,g5 = W2.heap.size:=⟨_,rfl⟩
 rw [<- hg5] at HS1 ⊢
 have hg5w:W1.heap.size <= g5:=oM
 clear hW3 X3 K2 hg5
 go_wp2_with fail
 go_loopw [22] (fun iv wx=>∃ i:Nat,iv = .int .i64 (i:Int) /\ i <= n /\ NBlk wx g5 1 (fun _=>S i) /\ Below W1.heap.size W1 wx) (fun iv _=>n - (intOf iv).toNat)
 case atStart=>exact ⟨0,rfl,oM,HS1.out,HB3.out⟩
 case round =>
  clear HS1 HB3
  obtain ⟨i,rfl,hin,hF,hB⟩:=hrel
  have HS2:=hid hF
  have KB:=hid hB
  have KB2:=hid (bT HB1.out hB)
  have HM2:=hid (HA0.out.below KB2.out)
  have HB2:=hid (HB0.out.below KB2.out)
  clear hF hB
  by_cases hi:i < n
  ·have hcell:=HM2.out.cell hi
   go_upto_region 7 with fail
   clear hcell
   refine region_lastA [.val (kNum (S i)),.val (kIs (.slice (some ⟨gb,0,none⟩) n n)),.val (kIs (.int .i64 (i:Int))),.val (kIs (.pointer (some ⟨gb,5 * i,none⟩))),.val (kNum (b i)),.val (kNum ((b i).conj)),.val (kIs (.slice (some ⟨gi i,0,none⟩) n n)),.val (kIs (.slice (some ⟨gb,0,none⟩) n n)),.val (kNum (D i)),.val (kNum ((b i).conj.mul (D i))),.val (kNum ((S i).add ((b i).conj.mul (D i))))]
    ?fl1 ?hfl1 kR kR kR kR kR ⟨Stab.b (stab_num _),Stab.b (stab_is _),Stab.b (stab_is _),Stab.b (stab_is _),Stab.b (stab_num _),Stab.b (stab_num _),Stab.b (stab_is _),Stab.b (stab_is _),Stab.b (stab_num _),Stab.b (stab_num _),Stab.b (stab_num _),trivial⟩ sP (ol:=_) rfl kR ⟨obN (nNe (k:=0) (f:=fun _=>S i) rfl .fr (fun W hb=>HS2.out.below hb) (by omega:0 < 1)),obN (uMf rfl .fr),obN (uMf rfl .fr),obN (nIq rfl (.is 1) (.is 2) hi),obN (nNe rfl (.is 3) (fun W hb=>HB2.out.below hb) hi),obN (uC1 rfl (.at 4) fun _ W hb h=>HCJ.out W _ (pg 4 h)),obN (uMf rfl .fr),obN (uMf rfl .fr),obN (uC2 rfl (.is 6) (.is 7) fun _ W hb h=>HDT.out W (bT KB2.out hb) i hi ((HM2.out.below hb).row hi)),obN (uC2 rfl (.at 5) (.at 8) fun _ W hb h=>HMU.out i hi W (bT KB2.out hb) _ _ (pg 5 h) (pg 8 h)),obN (uC2 rfl (.at 0) (.at 9) fun _ W hb h=>HAD.out i hi W (bT KB2.out hb) _ _ (pg 0 h) (pg 9 h)),trivial⟩ ?_
   case hfl1=>intro ts; simp only [fillT,zA,Nat.reduceAdd,sA,sB,sC]; rfl
   intro ts W9 a9 ha9 hb9 hh K hK
   have hz:IsNum W9 (ts 10) ((S i).add ((b i).conj.mul (D i))):=hh 10 sP
   have ex:=(ha9 6).trans (show _ = Value.pointer (some ⟨g5,5 * 0,none⟩) by kernel_rfl)
   have ez:=(ha9 37).trans (by kernel_rfl:_ = ts 10)
   have HK:=hid hK
   clear hK hh
   refine ⟨wp_store_elem rfl (k:=0) ex ez (HS2.out.below hb9) oM hz fun W5 hbut hext hrow=>⟨rfl,HK.out _ ?_⟩⟩
   have HF5:=hid (show NBlk W5 g5 1 (fun _=>S (i + 1)) from hrow.congr fun j hj=>by
    obtain rfl:j = 0:=oM
    rw [upf_same,HSN.out])
   have KB5:=hid (hbut.below (KB.out.trans (hb9.mono KB.out.size)) oM)
   clear HK hz ex ez hbut hext hrow HS2 KB2 KB HM2 HB2 hb9 ha9
   go_wp2
   go_roundw
   case rel=>exact ⟨i + 1,by go_num,oM,HF5.out,KB5.out⟩
   case measure=>exact mS
  ·obtain rfl:n = i:=oM
   obtain ⟨A,B,C,p,q,na',ca',nb',cb',nc',cc',f0,f1,f2,f3,f4,hq⟩:=HS2.out.cells1
   have X0:=(KB.out.block w.heap.size oM).trans HX0.out
   unfold zNum at X0
   obtain ⟨d0,d1,d2,d3,d4,k0,k1,k2,k3,k4⟩:=bx5 X0
   have NB:=hid (NumBox.nil d0 d1 d2 d3 d4)
   have HQ:=hid hq
   clear X0 hq HS2 HMU HAD HDT HM2 HB2
   go_wp2
   refine bodyPost_ret (v:=.tuple #[.agg #[.slice A na' ca',.bool p,.slice B nb' cb',.bool q,.slice C nc' cc'],.int .i64 0]) (by simp [results,Tryz.results33]; exact run_load5e NB.out _ _ _ _ _ _) rfl ?_
   exact RetNumE.box KB2.out oM NB.out HQ.out _ _ _ _ _
theorem formN_bad (w:World) (v u:Value) (n p:Nat) (ml:Nat -> Nat) (F:Nat -> Nat -> Cx) (f:Nat -> Cx) (h:NSS w v n ml F) (h':NSl w u p f) (hn:n <= 1099511627776) (hml:∀ i,i < n -> ml i <= 1099511627776) (hbad:¬ (Sqr n ml /\ p = n)) :
  Calls Tryz.prog 33 #[v,u] w (RetNumE w .zero 4):=by
 have HQ:=hid (fun W (hb:Below w.heap.size w W)=>squareN_all W v n ml F (h.below hb) hn hml)
 have HX:=hid hbad
 obtain ⟨A,c,rfl,-⟩:=h
 obtain ⟨A',c',rfl,-⟩:=h'
 clear hml hbad
 go_enter Tryz.func33,Tryz.ntmps33
 go_upto_region 1 with fail
 obtain ⟨W1,hW1⟩:∃ W1:World,W1 = w.alloc (.cells zNum 35):=⟨_,rfl⟩
 have HB1:=hid (show Below w.heap.size w W1 by rw [hW1]; exact below_alloc _ _)
 have z1:W1.heap.size = w.heap.size + 1:=by rw [hW1]; simp
 have HX0:=hid (show W1.heap[w.heap.size]? = some (.cells zNum 35 (0,0)) by rw [hW1]; exact heap_alloc_new _ _)
 unfold zNum at hW1
 rw [<- hW1]
 clear hW1
 go_wp2_with fail
 refine (HQ.out W1 HB1.out).mono ?_
 rintro e W2 ⟨b,rfl,hb1,hb⟩
 have X1:=hid hb1
 have X0:=(hb.block w.heap.size oM).trans HX0.out
 unfold zNum at X0
 obtain ⟨d0,d1,d2,d3,d4,k0,k1,k2,k3,k4⟩:=bx5 X0
 have NB:=hid (NumBox.nil d0 d1 d2 d3 d4)
 have KB:=hid (bT HB1.out hb)
 clear hb hb1 HQ X0
 have hne:b = true -> ((p:Int) != (n:Int)) = true:=fun e=>by
  have:p ≠ n:=fun e2=>HX.out ⟨X1.out.1 e,e2⟩
  simp; omega
 cases b
 ·clear hne
  go_wp2
  refine bodyPost_ret (v:=.tuple #[.agg #[.slice none 0 0,.bool false,.slice none 0 0,.bool false,.slice none 0 0],.int .i64 4]) (by simp [results,Tryz.results33]; exact run_load5e NB.out _ _ _ _ _ _) rfl ?_
  exact RetNumE.box KB.out lR NB.out (IsNum.zero _) _ _ _ _ _
 ·have hne:=hne rfl
  go_wp2
  refine bodyPost_ret (v:=.tuple #[.agg #[.slice none 0 0,.bool false,.slice none 0 0,.bool false,.slice none 0 0],.int .i64 4]) (by simp [results,Tryz.results33]; exact run_load5e NB.out _ _ _ _ _ _) rfl ?_
  exact RetNumE.box KB.out lR NB.out (IsNum.zero _) _ _ _ _ _
theorem rForm_ok (w:World) (ga gb:Nat) (gi:Nat -> Nat) (n p:Nat) (F:Nat -> Nat -> Cx) (b:Nat -> Cx) (hA:MatQ w ga gi n n F) (hB:QBlk w gb n (fun _=>True) b) (hn:n <= 5) (hF:∀ i k,i < n -> k < n -> Sz (F i k) p) (hb:∀ i,i < n -> Sz (b i) p) (hp:p <= 10000000) :
  Calls Tryz.prog 34 #[.slice (some ⟨ga,0,none⟩) n n,.slice (some ⟨gb,0,none⟩) n n] w (RetQE w (bf n 0 F b b) 0):=by
 obtain ⟨D,hD⟩:∃ D,D = mulV n F b:=⟨_,rfl⟩
 obtain ⟨S,hS⟩:∃ S:Nat -> Cx,S = sm (fun i=>(b i).conj.mul (D i)) 0:=⟨_,rfl⟩
 rw [show bf n 0 F b b = S n by rw [hS,hD]; rfl]
 have HS0:=hid (show S 0 = .zero by rw [hS]; rfl)
 have HSN:=hid (fun i=>show S (i + 1) = (S i).add ((b i).conj.mul (D i)) by rw [hS,sm_last,Nat.zero_add])
 have hDS:∀ i,i < n -> Sz (D i) (10 * p + 11):=fun i hi=>by
  rw [hD]
  refine (sm_sz (p:=p + p + 1) n 0 fun j _ hj=>(hF i j hi oM).mul (hb j oM)).mono ?_
  have:=Nat.mul_le_mul_right (p + p + 1 + 1) hn
  omega
 have hSS:∀ i,i < n -> Sz (S i) (60 * p + 100):=fun i hi=>by
  rw [hS]
  refine (sm_sz (p:=11 * p + 12) i 0 fun j _ hj=>((hb j oM).conj.mul (hDS j oM)).mono oM).mono ?_
  have:=Nat.mul_le_mul_right (11 * p + 12 + 1) (show i <= 5 by omega)
  omega
 have HAD:=hid (fun i (hi:i < n) W v u (k1:IsQ W v (S i)) (k2:IsQ W u ((b i).conj.mul (D i)))=>rAdd_any v u _ _ W k1 k2 _ _ (hSS i hi) ((hb i hi).conj.mul (hDS i hi)) oM)
 have HMU:=hid (fun i (hi:i < n) W v u (k1:IsQ W v (b i).conj) (k2:IsQ W u (D i))=>rMul_any v u _ _ W k1 k2 _ _ (hb i hi).conj (hDS i hi) oM)
 have HCJ:=hid (fun W v {x} (h:IsQ W v x)=>rConj_any v x W h)
 have HAP:=hid (fun W (hb':Below w.heap.size w W)=>rApply_any W ga gb gi n n n n p F b (hA.below hb') (hB.below hb') oM oM hF hb oM)
 rw [<- hD] at HAP
 have HQ:=hid (fun W (hb':Below w.heap.size w W)=>rSquare_any W _ n _ F ((hA.below hb').qss n) oM fun _ _=>oM)
 have HV:=hid (show Vld n (fun _=>n) /\ n = (if n = 0 then 0 else (fun _=>n) 0) from ⟨⟨oM,fun _ _=>⟨rfl,show n <= 32 by omega⟩⟩,by split <;> first | assumption | rfl⟩)
 have HW:=hid (fun W=>rWhole_any 0 W oM oM)
 rw [Cx.int_zero'] at HW
 have HB0:=hid hB
 have hgb:=hB.lt
 have hne0:((n:Int) != (n:Int)) = false:=sP
 clear hA hB hF hb hS hD hDS hSS
 go_enter Tryz.func34,Tryz.ntmps34
 go_upto_region 1 with fail
 obtain ⟨W1,hW1⟩:∃ W1:World,W1 = w.alloc (.cells zQ 42):=⟨_,rfl⟩
 have HB1:=hid (show Below w.heap.size w W1 by rw [hW1]; exact below_alloc _ _)
 have z1:W1.heap.size = w.heap.size + 1:=by rw [hW1]; simp
 have HX0:=hid (show W1.heap[w.heap.size]? = some (.cells zQ 42 (0,0)) by rw [hW1]; exact heap_alloc_new _ _)
 unfold zQ at hW1
 rw [<- hW1]
 clear hW1
 go_wp2_with fail
 refine (HQ.out W1 HB1.out).mono ?_
 rintro e W2 ⟨bb,rfl,q1,hB⟩
 obtain rfl:bb = true:=q1.2 HV.out
 have K2:=hid hB
 clear q1 hB HQ HV
 go_upto_region 3 with fail
 refine region_litA [.val (kQ (.zero)),.box 42 zQ,.put 1 0]
  ?fl2 ?hfl2 kR kR kR kR kR ⟨stab_q _,trivial⟩ sP ⟨obN (uC1 rfl .k fun _ W hb h=>HW.out W),alloc_q,store_q _,trivial⟩ ?_
 case hfl2=>intro ts; simp only [fillT,zA,Nat.reduceAdd,sA,sB,sC]; rfl
 intro ts W3 hb3 hh hap
 obtain ⟨g5,A7,n7,c7,p7,A7b,n7b,c7b,p7b,A7c,n7c,c7c,e7,lo7,z7,X7,N7⟩:=held_boxQ (x:=.zero) (hh 1 sP) rfl (hh 2 sP) rfl (hh 0 sP) rfl
 simp only [e7]
 clear hh hap e7
 have HS3:=hid (show QBlk W3 g5 1 (fun _=>True) (fun _=>S 0) by rw [HS0.out]; exact QBlk.one (V:=fun _=>True) X7 fun _=>N7)
 have K3:=hid (bT K2.out hb3)
 have hg5:W1.heap.size <= g5:=Nat.le_trans K2.out.size lo7
 have hgb5:gb ≠ g5:=oM
 clear hb3 K2 X7 N7 lo7 z7 HW
 go_wp2_with fail
 refine (HAP.out W3 (bT HB1.out K3.out)).mono ?_
 rintro e W4 ⟨gx,rfl,hx,hB,hgx⟩
 have HX4:=hid hx
 have HS4:=hid (HS3.out.below hB)
 have K4:=hid (bT K3.out hB)
 have hx5:gx ≠ g5:=by have:=HS3.out.lt; omega
 clear hx hB HAP HS3 K3
 go_wp2_with fail
 go_loopw [8] (fun iv wx=>∃ i:Nat,iv = .int .i64 (i:Int) /\ i <= n /\ QBlk wx g5 1 (fun _=>True) (fun _=>S i) /\ QBlk wx gx n (fun _=>True) D /\ Below W1.heap.size W1 wx) (fun iv _=>n - (intOf iv).toNat)
 case atStart=>exact ⟨0,rfl,oM,HS4.out,HX4.out,K4.out⟩
 case round =>
  clear HS4 HX4 K4
  obtain ⟨i,rfl,hin,hF,hX,hB⟩:=hrel
  have HS2:=hid hF
  have HX2:=hid hX
  have KB:=hid hB
  have KB2:=hid (bT HB1.out hB)
  have HB2:=hid (HB0.out.below KB2.out)
  clear hF hB hX
  by_cases hi:i < n
  ·go_upto_region 8 with fail
   refine region_lastA [.val (kQ (S i)),.val (kIs (.slice (some ⟨gb,0,none⟩) n n)),.val (kIs (.int .i64 (i:Int))),.val (kIs (.pointer (some ⟨gb,5 * i,none⟩))),.val (kQ (b i)),.val (kQ ((b i).conj)),.val (kIs (.slice (some ⟨gx,0,none⟩) n n)),.val (kIs (.int .i64 (i:Int))),.val (kIs (.pointer (some ⟨gx,5 * i,none⟩))),.val (kQ (D i)),.val (kQ ((b i).conj.mul (D i))),.val (kQ ((S i).add ((b i).conj.mul (D i))))]
    ?fl3 ?hfl3 kR kR kR kR kR ⟨Stab.b (stab_q _),Stab.b (stab_is _),Stab.b (stab_is _),Stab.b (stab_is _),Stab.b (stab_q _),Stab.b (stab_q _),Stab.b (stab_is _),Stab.b (stab_is _),Stab.b (stab_is _),Stab.b (stab_q _),Stab.b (stab_q _),Stab.b (stab_q _),trivial⟩ sP (ol:=_) rfl kR ⟨obN (uQe (k:=0) (f:=fun _=>S i) (V:=fun _=>True) rfl .fr (fun W hb=>HS2.out.below hb) (by omega:0 < 1) trivial),obN (uMf rfl .fr),obN (uMf rfl .fr),obN (uIq rfl (.is 1) (.is 2) hi),obN (uQe rfl (.is 3) (fun W hb=>HB2.out.below hb) hi trivial),obN (uC1 rfl (.at 4) fun _ W hb h=>HCJ.out W _ (pg 4 h)),obN (uMf rfl .fr),obN (uMf rfl .fr),obN (uIq rfl (.is 6) (.is 7) hi),obN (uQe rfl (.is 8) (fun W hb=>HX2.out.below hb) hi trivial),obN (uC2 rfl (.at 5) (.at 9) fun _ W hb h=>HMU.out i hi W _ _ (pg 5 h) (pg 9 h)),obN (uC2 rfl (.at 0) (.at 10) fun _ W hb h=>HAD.out i hi W _ _ (pg 0 h) (pg 10 h)),trivial⟩ ?_
   case hfl3=>intro ts; simp only [fillT,zA,Nat.reduceAdd,sA,sB,sC]; rfl
   intro ts W9 a9 ha9 hb9 hh K hK
   have hz:IsQ W9 (ts 11) ((S i).add ((b i).conj.mul (D i))):=hh 11 sP
   have ex:=(ha9 6).trans (show _ = Value.pointer (some ⟨g5,5 * 0,none⟩) by kernel_rfl)
   have ez:=(ha9 41).trans (by kernel_rfl:_ = ts 11)
   have HK:=hid hK
   clear hK hh
   refine ⟨wp_store_qe rfl (k:=0) ex ez (HS2.out.below hb9) oM hz fun W5 hbut hext hrow=>⟨rfl,HK.out _ ?_⟩⟩
   have HF5:=hid (show QBlk W5 g5 1 (fun _=>True) (fun _=>S (i + 1)) from hrow.to fun j hj _=>⟨.inl trivial,by
    obtain rfl:j = 0:=oM
    rw [upf_same,HSN.out]⟩)
   have HX5:=hid ((HX2.out.below hb9).but hbut hext hx5)
   have KB5:=hid (hbut.below (KB.out.trans (hb9.mono KB.out.size)) hg5)
   clear HK hz ex ez hbut hext hrow HS2 KB2 KB HX2 HB2 hb9 ha9
   go_wp2
   go_roundw
   case rel=>exact ⟨i + 1,by go_num,oM,HF5.out,HX5.out,KB5.out⟩
   case measure=>exact mS
  ·obtain rfl:n = i:=oM
   obtain ⟨A,B,C,p,q,na,ca,nb,cb,nc,cc,f0,f1,f2,f3,f4,hq⟩:=HS2.out.cells1 trivial
   have X0:=(KB.out.block w.heap.size oM).trans HX0.out
   unfold zQ at X0
   obtain ⟨d0,d1,d2,d3,d4,k0,k1,k2,k3,k4⟩:=bx5 X0
   have NB:=hid (NumBox.nilQ d0 d1 d2 d3 d4)
   have HQ:=hid hq
   clear X0 hq HS2 HMU HAD HX2 HB2
   go_wp2
   refine bodyPost_ret (v:=.tuple #[.agg #[.bool p,.slice A na ca,.bool q,.slice B nb cb,.slice C nc cc],.int .i64 0]) (by simp [results,Tryz.results34]; exact run_loadQe NB.out _ _ _ _ _ _) rfl ?_
   exact RetQE.box KB2.out oM NB.out HQ.out _ _ _ _ _
theorem rForm_bad (w:World) (v u:Value) (n p:Nat) (ml:Nat -> Nat) (F:Nat -> Nat -> Cx) (f:Nat -> Cx) (h:QSS w v n ml F) (h':QSl w u p f) (hn:n <= 1099511627776) (hml:∀ i,i < n -> ml i <= 1099511627776) (hbad:¬ (Sqr n ml /\ p = n)) :
  Calls Tryz.prog 34 #[v,u] w (RetQE w .zero 4):=by
 have HQ:=hid (fun W (hb:Below w.heap.size w W)=>rSquare_any W v n ml F (h.below hb) hn hml)
 have HX:=hid hbad
 have HW:=hid (fun W=>rWhole_any 0 W oM oM)
 rw [Cx.int_zero'] at HW
 obtain ⟨A,c,rfl,-⟩:=h
 obtain ⟨A',c',rfl,-⟩:=h'
 clear hml hbad
 go_enter Tryz.func34,Tryz.ntmps34
 go_upto_region 1 with fail
 obtain ⟨W1,hW1⟩:∃ W1:World,W1 = w.alloc (.cells zQ 42):=⟨_,rfl⟩
 have HB1:=hid (show Below w.heap.size w W1 by rw [hW1]; exact below_alloc _ _)
 have z1:W1.heap.size = w.heap.size + 1:=by rw [hW1]; simp
 have HX0:=hid (show W1.heap[w.heap.size]? = some (.cells zQ 42 (0,0)) by rw [hW1]; exact heap_alloc_new _ _)
 unfold zQ at hW1
 rw [<- hW1]
 clear hW1
 go_wp2_with fail
 refine (HQ.out W1 HB1.out).mono ?_
 rintro e W2 ⟨b,rfl,hb1,hb⟩
 have X1:=hid hb1
 have x2:=hid ((hb.block w.heap.size oM).trans HX0.out)
 have z2:w.heap.size < W2.heap.size:=by have:=hb.size; omega
 have KB:=hid (bT HB1.out hb)
 clear hb hb1 HQ HX0
 have hne:b = true -> ((p:Int) != (n:Int)) = true:=fun e=>by
  have:p ≠ n:=fun e2=>HX.out ⟨X1.out.1 e,e2⟩
  simp; omega
 have FIN:=hid (fun W3 u (hu:IsQ W3 u Cx.zero) (hb:Below W2.heap.size W2 W3)=>(show ∃ A1 n1 c1 p1 A2 n2 c2 p2 A3 n3 c3,u = .agg #[.bool p1,.slice A1 n1 c1,.bool p2,.slice A2 n2 c2,.slice A3 n3 c3] /\ W3.heap[w.heap.size]? = some (.cells zQ 42 (0,0)) /\ Below w.heap.size w W3 from by
  obtain ⟨A1,n1,c1,p1,A2,n2,c2,p2,A3,n3,c3,ia,ib,id,e,-⟩:=hu.parts
  exact ⟨A1,n1,c1,p1,A2,n2,c2,p2,A3,n3,c3,e,(hb.block _ z2).trans x2.out,bT KB.out hb⟩))
 cases b
 ·clear hne
  go_wp2_with fail
  refine (HW.out W2).mono ?_
  rintro e W3 ⟨u,rfl,hu,hb⟩
  obtain ⟨A1,n1,c1,p1,A2,n2,c2,p2,A3,n3,c3,rfl,x3,hB3⟩:=FIN.out W3 u hu hb
  unfold zQ at x3
  obtain ⟨d0,d1,d2,d3,d4,k0,k1,k2,k3,k4⟩:=bx5 x3
  have NB:=hid (NumBox.nilQ d0 d1 d2 d3 d4)
  have HU:=hid hu
  have KB3:=hid hB3
  clear hu hb x3 hB3 FIN
  go_wp2
  refine bodyPost_ret (v:=.tuple #[.agg #[.bool p1,.slice A1 n1 c1,.bool p2,.slice A2 n2 c2,.slice A3 n3 c3],.int .i64 4]) (by simp [results,Tryz.results34]; exact run_loadQe NB.out _ _ _ _ _ _) rfl ?_
  exact RetQE.box KB3.out lR NB.out HU.out _ _ _ _ _
 ·have hne:=hne rfl
  go_wp2_with fail
  refine (HW.out W2).mono ?_
  rintro e W3 ⟨u,rfl,hu,hb⟩
  obtain ⟨A1,n1,c1,p1,A2,n2,c2,p2,A3,n3,c3,rfl,x3,hB3⟩:=FIN.out W3 u hu hb
  unfold zQ at x3
  obtain ⟨d0,d1,d2,d3,d4,k0,k1,k2,k3,k4⟩:=bx5 x3
  have NB:=hid (NumBox.nilQ d0 d1 d2 d3 d4)
  have HU:=hid hu
  have KB3:=hid hB3
  clear hu hb x3 hB3 FIN
  go_wp2
  refine bodyPost_ret (v:=.tuple #[.agg #[.bool p1,.slice A1 n1 c1,.bool p2,.slice A2 n2 c2,.slice A3 n3 c3],.int .i64 4]) (by simp [results,Tryz.results34]; exact run_loadQe NB.out _ _ _ _ _ _) rfl ?_
  exact RetQE.box KB3.out lR NB.out HU.out _ _ _ _ _
end Go.Proofs.YtffegeaflohfhaaGreatDoor
