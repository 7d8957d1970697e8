import Derived.Test.YtffegeaflohfhaaGreatDoorS13
import Derived.Test.YtffegeaflohfhaaGreatDoorS23
import Derived.Test.YtffegeaflohfhaaGreatDoorS27
import Derived.Test.YtffegeaflohfhaaGreatDoorS02
set_option linter.unusedVariables false
set_option linter.unusedSimpArgs false
set_option maxRecDepth 100000
set_option maxHeartbeats 8000000
namespace Go.Proofs.YtffegeaflohfhaaGreatDoor
open Go.RowKit
section
variable (x y z:Cx)
theorem Cx.add_assoc:(x.add y).add z = x.add (y.add z):=by apply Cx.ext <;> simp only [Cx.add] <;> grind
theorem Cx.mul_comm:x.mul y = y.mul x:=by apply Cx.ext <;> simp only [Cx.mul] <;> grind
theorem Cx.mul_assoc:(x.mul y).mul z = x.mul (y.mul z):=by apply Cx.ext <;> simp only [Cx.mul] <;> grind
theorem Cx.mul_add:x.mul (y.add z) = (x.mul y).add (x.mul z):=by apply Cx.ext <;> simp only [Cx.mul,Cx.add] <;> grind
theorem Cx.div_mul {y:Cx} (h:y ≠ .zero):(x.div y).mul y = x:=by
 have h0:=nrm_pos_ne h
 have hinv:y.inv.mul y = .int 1:=by
  apply Cx.ext
  ·simp only [Cx.inv,Cx.mul,Cx.int]
   have e:y.re / y.nrm * y.re - -y.im / y.nrm * y.im = (y.re * y.re + y.im * y.im) / y.nrm:=by grind
   rw [e]
   show y.nrm / y.nrm = _
   have:y.nrm / y.nrm = 1:=by grind
   rw [this]; rfl
  ·simp only [Cx.inv,Cx.mul,Cx.int]
   grind
 rw [Cx.div,Cx.mul_assoc,hinv]
 apply Cx.ext <;> simp [Cx.mul,Cx.int] <;> grind
end
theorem divN_k (v u:Value) (x y:Cx) (w:World) (h:IsNum w v x) (h':IsNum w u y) (m n:Nat) (hx:Sz x m) (hy:Sz y n) (hm:m + 4 * n + 4 < 549755813888) (hT:Tab w) {k:Int} (hk:(if y = .zero then (3:Int) else 0) = k) :
  Calls Tryz.prog 38 #[v,u] w (RetNumE w (x.div y) k):=by
 have:=divN_any v u x y w h h' m n hx hy hm hT
 rwa [hk] at this
theorem div_ok {y:Cx} (h:y ≠ .zero):(if y = .zero then (3:Int) else 0) = 0:=if_neg h
end Go.Proofs.YtffegeaflohfhaaGreatDoor
namespace Go.Proofs.YtffegeaflohfhaaGreatDoor
def sm (f:Nat -> Cx):Nat -> Nat -> Cx
 | _,0=>.zero
 | j,d + 1=>(f j).add (sm f (j + 1) d)
theorem sm_congr {f g:Nat -> Cx}:∀ (d j:Nat),(∀ i,j <= i -> i < j + d -> f i = g i) -> sm f j d = sm g j d:=by
 intro d
 induction d with
 | zero=>intro j _; rfl
 | succ d ih =>
  intro j h
  rw [sm,sm,h j lR oM,ih (j + 1) fun i h1 h2=>h i oM oM]
theorem Cx.zero_add (x:Cx):Cx.zero.add x = x:=by apply Cx.ext <;> simp only [Cx.add,Cx.zero] <;> grind
theorem Cx.add_zero (x:Cx):x.add Cx.zero = x:=by apply Cx.ext <;> simp only [Cx.add,Cx.zero] <;> grind
theorem Cx.zero_mul (x:Cx):Cx.zero.mul x = .zero:=by apply Cx.ext <;> simp only [Cx.mul,Cx.zero] <;> grind
theorem Cx.mul_zero (x:Cx):x.mul Cx.zero = .zero:=by apply Cx.ext <;> simp only [Cx.mul,Cx.zero] <;> grind
theorem Cx.one_mul (x:Cx):(Cx.int 1).mul x = x:=by apply Cx.ext <;> simp [Cx.mul,Cx.int] <;> grind
theorem Cx.mul_one (x:Cx):x.mul (Cx.int 1) = x:=by apply Cx.ext <;> simp [Cx.mul,Cx.int] <;> grind
theorem sm_zero {f:Nat -> Cx}:∀ (d j:Nat),(∀ i,j <= i -> i < j + d -> f i = .zero) -> sm f j d = .zero:=by
 intro d
 induction d with
 | zero=>intro j _; rfl
 | succ d ih =>
  intro j h
  rw [sm,h j lR oM,ih (j + 1) fun i h1 h2=>h i oM oM,Cx.zero_add]
theorem sm_split (f:Nat -> Cx):∀ (a j b:Nat),sm f j (a + b) = (sm f j a).add (sm f (j + a) b):=by
 intro a
 induction a with
 | zero=>intro j b; rw [Nat.zero_add,sm,Cx.zero_add,Nat.add_zero]
 | succ a ih =>
  intro j b
  rw [show a + 1 + b = (a + b) + 1 by omega,sm,sm,ih (j + 1) b,Cx.add_assoc,show j + 1 + a = j + (a + 1) by omega]
theorem sm_last (f:Nat -> Cx) (j d:Nat):sm f j (d + 1) = (sm f j d).add (f (j + d)):=by
 rw [sm_split f d j 1,sm,sm,Cx.add_zero]
theorem sm_add (f g:Nat -> Cx):∀ (d j:Nat),sm (fun i=>(f i).add (g i)) j d = (sm f j d).add (sm g j d):=by
 intro d
 induction d with
 | zero=>intro j; rw [sm,sm,sm,Cx.zero_add]
 | succ d ih =>
  intro j
  rw [sm,sm,sm,ih (j + 1)]
  generalize sm f (j + 1) d = u
  generalize sm g (j + 1) d = v
  apply Cx.ext <;> simp only [Cx.add] <;> grind
theorem sm_mul (c:Cx) (f:Nat -> Cx):∀ (d j:Nat),sm (fun i=>c.mul (f i)) j d = c.mul (sm f j d):=by
 intro d
 induction d with
 | zero=>intro j; rw [sm,sm,Cx.mul_zero]
 | succ d ih=>intro j; rw [sm,sm,ih (j + 1),Cx.mul_add]
theorem sm_subc (c:Cx) (f g:Nat -> Cx):∀ (d j:Nat),sm (fun i=>(f i).sub (c.mul (g i))) j d = (sm f j d).sub (c.mul (sm g j d)):=by
 intro d
 induction d with
 | zero=>intro j; rw [sm,sm,sm,Cx.mul_zero]; apply Cx.ext <;> simp only [Cx.sub,Cx.zero] <;> grind
 | succ d ih =>
  intro j
  rw [sm,sm,sm,ih (j + 1)]
  generalize sm f (j + 1) d = u
  generalize sm g (j + 1) d = v
  apply Cx.ext <;> simp only [Cx.sub,Cx.add,Cx.mul] <;> grind
theorem sm_swap (f:Nat -> Nat -> Cx) (m k:Nat):∀ (d j:Nat),sm (fun i=>sm (fun l=>f i l) k m) j d = sm (fun l=>sm (fun i=>f i l) j d) k m:=by
 intro d
 induction d with
 | zero =>
  intro j
  rw [sm]
  exact (sm_zero m k fun _ _ _=>rfl).symm
 | succ d ih =>
  intro j
  rw [sm,ih (j + 1),<- sm_add]
  rfl
theorem sm_one {f:Nat -> Cx} {n i:Nat} (hi:i < n) (h:∀ j,j < n -> j ≠ i -> f j = .zero):sm f 0 n = f i:=by
 have e:n = i + (1 + (n - i - 1)):=oM
 rw [e,sm_split,sm_split,sm_zero i 0 fun j _ h2=>h j oM oM,sm_zero (n - i - 1) _ fun j h1 h2=>h j oM oM,sm,sm,Cx.zero_add,Cx.add_zero,Cx.add_zero,Nat.zero_add]
def eff (c:Nat) (G:Nat -> Nat -> Cx):Nat -> Nat -> Cx:=fun i j=>if j < c /\ j < i then .zero else G i j
theorem eff_zero (G:Nat -> Nat -> Cx):eff 0 G = G:=by
 funext i j
 exact if_neg oM
def Solves (n:Nat) (A:Nat -> Nat -> Cx) (b x:Nat -> Cx):Prop:=∀ i,i < n -> sm (fun j=>(A i j).mul (x j)) 0 n = b i
theorem Cx.div_mul' (x:Cx) {y:Cx} (h:y ≠ .zero):(x.div y).mul y = x:=Cx.div_mul x h
theorem clear_row {F:Nat -> Nat -> Cx} {n c:Nat} (i j:Nat) (h:i <= c):clearF F c c n i j = F i j:=by
 unfold clearF clearP
 rw [if_neg oM]
theorem clear_low {F:Nat -> Nat -> Cx} {n c:Nat} (i j:Nat) (h:c < i) (hi:i < n) (hj:c < j):clearF F c c n i j = (F i j).sub (((F i c).div (F c c)).mul (F c j)):=by
 unfold clearF clearP
 rw [if_pos oM]
theorem step_clear {F:Nat -> Nat -> Cx} {n c k:Nat} (hc:c < n) (hk:n <= k) (h0:F c c ≠ .zero) (x:Nat -> Cx) :
  Solves n (eff c F) (fun i=>F i k) x ↔ Solves n (eff (c + 1) (clearF F c c n)) (fun i=>clearF F c c n i k) x:=by
 have same:∀ i,i <= c -> (sm (fun j=>(eff (c + 1) (clearF F c c n) i j).mul (x j)) 0 n = sm (fun j=>(eff c F i j).mul (x j)) 0 n) /\ clearF F c c n i k = F i k:=fun i hi=>by
  refine ⟨sm_congr _ _ fun j _ _=>?_,clear_row i k hi⟩
  have:eff (c + 1) (clearF F c c n) i j = eff c F i j:=by
   unfold eff
   rw [clear_row i j hi]
   by_cases h:j < c /\ j < i
   ·rw [if_pos h,if_pos oM]
   ·rw [if_neg h,if_neg oM]
  rw [this]
 have low:∀ i,c < i -> i < n -> sm (fun j=>(eff (c + 1) (clearF F c c n) i j).mul (x j)) 0 n = (sm (fun j=>(eff c F i j).mul (x j)) 0 n).sub (((F i c).div (F c c)).mul (sm (fun j=>(eff c F c j).mul (x j)) 0 n)):=fun i h1 h2=>by
  rw [<- sm_subc]
  refine sm_congr _ _ fun j _ hj=>?_
  have:eff (c + 1) (clearF F c c n) i j = (eff c F i j).sub (((F i c).div (F c c)).mul (eff c F c j)):=by
   unfold eff
   rcases Nat.lt_trichotomy j c with h | h | h
   ·rw [if_pos oM,if_pos oM,if_pos oM,Cx.mul_zero]
    apply Cx.ext <;> simp only [Cx.sub,Cx.zero] <;> grind
   ·subst h
    rw [if_pos oM,if_neg oM,if_neg oM,Cx.div_mul' _ h0]
    apply Cx.ext <;> simp only [Cx.sub,Cx.zero] <;> grind
   ·rw [if_neg oM,if_neg oM,if_neg oM,clear_low i j h1 h2 h]
  rw [this]
  generalize eff c F i j = u
  generalize eff c F c j = v
  generalize (F i c).div (F c c) = f
  generalize x j = y
  apply Cx.ext <;> simp only [Cx.sub,Cx.mul] <;> grind
 have sub_inj:∀ {u v w:Cx},u.sub w = v.sub w -> u = v:=fun {u v w} h=>by
  have h1:=congrArg Cx.re h
  have h2:=congrArg Cx.im h
  simp only [Cx.sub] at h1 h2
  apply Cx.ext <;> grind
 constructor
 ·intro h i hi
  rcases Nat.lt_or_ge c i with h1 | h1
  ·rw [low i h1 hi,h i hi,h c hc]
   exact (clear_low i k h1 hi oM).symm
  ·rw [(same i h1).1]
   exact (h i hi).trans (same i h1).2.symm
 ·intro h i hi
  rcases Nat.lt_or_ge c i with h1 | h1
  ·have e:=h i hi
   have e2:=h c hc
   rw [(same c lR).1] at e2
   simp only [(same c lR).2] at e2
   rw [low i h1 hi,e2] at e
   simp only [clear_low i k h1 hi (show c < k by omega)] at e
   exact sub_inj e
  ·have e:=h i hi
   rw [(same i h1).1] at e
   simp only [(same i h1).2] at e
   exact e
theorem eff_swp {F:Nat -> Nat -> Cx} {c p:Nat} (hp:c <= p):eff c (swp F c p) = swp (eff c F) c p:=by
 funext i j
 unfold eff swp
 by_cases h1:i = c
 ·subst h1
  simp only [if_true]
  by_cases h:j < i
  ·rw [if_pos oM,if_pos oM]
  ·rw [if_neg oM,if_neg oM]
 ·by_cases h2:i = p
  ·subst h2
   simp only [if_neg h1,if_true]
   by_cases h:j < c
   ·rw [if_pos oM,if_pos oM]
   ·rw [if_neg oM,if_neg oM]
  ·simp only [if_neg h1,if_neg h2]
theorem step_swap {F:Nat -> Nat -> Cx} {n c p k:Nat} (hc:c < n) (hp:c <= p) (hpn:p < n) (x:Nat -> Cx) :
  Solves n (eff c F) (fun i=>F i k) x ↔ Solves n (eff c (swp F c p)) (fun i=>swp F c p i k) x:=by
 rw [eff_swp hp]
 have row:∀ i,sm (fun j=>(swp (eff c F) c p i j).mul (x j)) 0 n = (if i = c then sm (fun j=>(eff c F p j).mul (x j)) 0 n else if i = p then sm (fun j=>(eff c F c j).mul (x j)) 0 n else sm (fun j=>(eff c F i j).mul (x j)) 0 n):=fun i=>by
  unfold swp
  by_cases h1:i = c
  ·simp only [if_pos h1]
  ·by_cases h2:i = p
   ·simp only [if_neg h1,if_pos h2]
   ·simp only [if_neg h1,if_neg h2]
 have rhs:∀ i,swp F c p i k = (if i = c then F p k else if i = p then F c k else F i k):=fun i=>by
  unfold swp
  by_cases h1:i = c
  ·simp only [if_pos h1]
  ·by_cases h2:i = p
   ·simp only [if_neg h1,if_pos h2]
   ·simp only [if_neg h1,if_neg h2]
 constructor
 ·intro h i hi
  simp only [row,rhs]
  by_cases h1:i = c
  ·rw [if_pos h1,if_pos h1]; exact h p hpn
  ·by_cases h2:i = p
   ·rw [if_neg h1,if_neg h1,if_pos h2,if_pos h2]; exact h c hc
   ·rw [if_neg h1,if_neg h1,if_neg h2,if_neg h2]; exact h i hi
 ·intro h i hi
  by_cases h1:i = c
  ·have e:=h p hpn
   simp only [row,rhs] at e
   by_cases h3:p = c
   ·rw [if_pos h3,if_pos h3] at e; rw [h1]; rw [h3] at e; exact e
   ·simp only [if_neg h3,if_true] at e; rw [h1]; exact e
  ·by_cases h2:i = p
   ·have e:=h c hc
    simp only [row,rhs,if_true] at e
    rw [h2]; exact e
   ·have e:=h i hi
    simp only [row,rhs] at e
    rw [if_neg h1,if_neg h1,if_neg h2,if_neg h2] at e
    exact e
theorem swp_id {α:Type} (f:Nat -> α) (c:Nat):swp f c c = f:=by
 funext i
 unfold swp
 by_cases h:i = c
 ·rw [if_pos h,h]
 ·rw [if_neg h,if_neg h]
theorem elimS_step (n d c:Nat) (F:Nat -> Nat -> Cx) (ex:Nat) (h:c + (d + 1) = n):((∀ j,c <= j -> j < n -> F j c = .zero) /\ elimS n (d + 1) c F ex = (c,ex,F) /\ pivF F c c (n - c) = -1) ∨
  ∃ p ex',c <= p /\ p < n /\ F p c ≠ .zero /\ pivF F c c (n - c) = (p:Int) /\ elimS n (d + 1) c F ex = elimS n d (c + 1) (clearF (swp F c p) c c n) ex' /\ swp F c p c c ≠ .zero:=by
 rcases pivF_cases F c (n - c) c with ⟨hp,hz⟩ | ⟨p,h1,h2,hp,h3,-⟩
 ·exact .inl ⟨fun j h1 h2=>hz j h1 oM,by rw [elimS,if_pos (by rw [hp]; omega)],hp⟩
 ·refine .inr ?_
  by_cases hpc:p = c
  ·subst hpc
   exact ⟨p,ex,h1,oM,h3,hp,by rw [elimS,if_neg (by rw [hp]; omega),if_pos hp,swp_id],by rw [swp_id]; exact h3⟩
  ·refine ⟨p,ex + 1,h1,oM,h3,hp,by rw [elimS,if_neg (by rw [hp]; omega),if_neg (by rw [hp]; omega),hp]; rfl,?_⟩
   unfold swp
   simp only [if_true]
   exact h3
theorem elimS_top (n:Nat):∀ (d c:Nat) (F:Nat -> Nat -> Cx) (ex:Nat),c + d = n -> (∀ i,i < c -> ∀ j,(elimS n d c F ex).2.2 i j = F i j):=by
 intro d
 induction d with
 | zero=>intro c F ex h i hi j; rfl
 | succ d ih =>
  intro c F ex h i hi j
  rcases elimS_step n d c F ex h with ⟨-,e,-⟩ | ⟨p,ex',h1,h2,-,-,e,-⟩
  ·rw [e]
  ·rw [e,ih (c + 1) _ ex' oM i oM j,clear_row i j oM]
   unfold swp
   rw [if_neg oM,if_neg oM]
theorem elimS_diag (n:Nat):∀ (d c:Nat) (F:Nat -> Nat -> Cx) (ex:Nat),c + d = n -> (elimS n d c F ex).1 = n -> ∀ i,c <= i -> i < n -> (elimS n d c F ex).2.2 i i ≠ .zero:=by
 intro d
 induction d with
 | zero=>intro c F ex h _ i h1 h2; omega
 | succ d ih =>
  intro c F ex h hs i h1 h2
  rcases elimS_step n d c F ex h with ⟨-,e,-⟩ | ⟨p,ex',h3,h4,-,-,e,h0⟩
  ·rw [e] at hs; simp only at hs; omega
  ·rw [e] at hs ⊢
   by_cases hic:i = c
   ·rw [hic,elimS_top n d (c + 1) _ ex' oM c oM c,clear_row c c lR]
    exact h0
   ·exact ih (c + 1) _ ex' oM hs i oM h2
theorem elimS_solves (n k:Nat) (hk:n <= k) (x:Nat -> Cx):∀ (d c:Nat) (F:Nat -> Nat -> Cx) (ex:Nat),c + d = n -> (elimS n d c F ex).1 = n ->
  (Solves n (eff c F) (fun i=>F i k) x ↔ Solves n (eff n (elimS n d c F ex).2.2) (fun i=>(elimS n d c F ex).2.2 i k) x):=by
 intro d
 induction d with
 | zero => intro c F ex h _; obtain rfl : c = n := oM
           exact Iff.rfl
 | succ d ih =>
  intro c F ex h hs
  rcases elimS_step n d c F ex h with ⟨-,e,-⟩ | ⟨p,ex',h3,h4,-,-,e,h0⟩
  ·rw [e] at hs; simp only at hs; omega
  ·rw [e] at hs ⊢
   rw [<- ih (c + 1) _ ex' oM hs,step_swap oM h3 h4 x]
   exact step_clear oM hk h0 x
theorem pivF_congr {F F':Nat -> Nat -> Cx} (c:Nat) (h:∀ i,F i c = F' i c):∀ (d i:Nat),pivF F c i d = pivF F' c i d:=by
 intro d
 induction d with
 | zero=>intro i; rfl
 | succ d ih=>intro i; rw [pivF,pivF,h i,ih (i + 1)]
theorem elimS_cols (n:Nat):∀ (d c:Nat) (F F':Nat -> Nat -> Cx) (ex:Nat),c + d = n -> (∀ i j,j < n -> F i j = F' i j) ->
  (elimS n d c F ex).1 = (elimS n d c F' ex).1 /\ (elimS n d c F ex).2.1 = (elimS n d c F' ex).2.1 /\ ∀ i j,j < n -> (elimS n d c F ex).2.2 i j = (elimS n d c F' ex).2.2 i j:=by
 intro d
 induction d with
 | zero=>intro c F F' ex h hF; exact ⟨rfl,rfl,hF⟩
 | succ d ih =>
  intro c F F' ex h hF
  have hp:=pivF_congr (F:=F) (F':=F') c (fun i=>hF i c oM) (n - c) c
  rw [elimS,elimS,hp]
  have hcl:∀ G G':Nat -> Nat -> Cx,(∀ i j,j < n -> G i j = G' i j) -> ∀ i j,j < n -> clearF G c c n i j = clearF G' c c n i j:=fun G G' hG i j hj=>by
   unfold clearF clearP
   rw [hG i j hj,hG i c oM,hG c c oM,hG c j hj]
  split
  ·exact ⟨rfl,rfl,hF⟩
  ·split
   ·exact ih (c + 1) _ _ ex oM (hcl _ _ hF)
   ·refine ih (c + 1) _ _ (ex + 1) oM (hcl _ _ fun i j hj=>?_)
    unfold swp
    split
    ·exact hF _ j hj
    ·split
     ·exact hF _ j hj
     ·exact hF _ j hj
def subF (R:Nat -> Nat -> Cx) (c:Nat) (x:Nat -> Cx):Cx -> Nat -> Nat -> Cx
 | s,_,0=>s
 | s,j,d + 1=>subF R c x (s.sub ((R c j).mul (x j))) (j + 1) d
theorem subF_sum (R:Nat -> Nat -> Cx) (c:Nat) (x:Nat -> Cx):∀ (d j:Nat) (s:Cx),subF R c x s j d = s.sub (sm (fun i=>(R c i).mul (x i)) j d):=by
 intro d
 induction d with
 | zero=>intro j s; rw [subF,sm]; apply Cx.ext <;> simp only [Cx.sub,Cx.zero] <;> grind
 | succ d ih =>
  intro j s
  rw [subF,ih (j + 1),sm]
  generalize sm (fun i=>(R c i).mul (x i)) (j + 1) d = u
  apply Cx.ext <;> simp only [Cx.sub,Cx.add,Cx.mul] <;> grind
theorem subF_last (R:Nat -> Nat -> Cx) (c:Nat) (x:Nat -> Cx) (d j:Nat) (s:Cx):subF R c x s j (d + 1) = (subF R c x s j d).sub ((R c (j + d)).mul (x (j + d))):=by
 rw [subF_sum,subF_sum,sm_last]
 generalize sm (fun i=>(R c i).mul (x i)) j d = u
 apply Cx.ext <;> simp only [Cx.sub,Cx.add,Cx.mul] <;> grind
def solT (R:Nat -> Nat -> Cx) (k n:Nat):Nat -> Nat -> Cx
 | 0=>fun _=>.zero
 | t + 1=>upf (solT R k n t) (n - 1 - t) ((subF R (n - 1 - t) (solT R k n t) (R (n - 1 - t) k) (n - 1 - t + 1) t).div (R (n - 1 - t) (n - 1 - t)))
def solX (R:Nat -> Nat -> Cx) (k n:Nat):Nat -> Cx:=solT R k n n
theorem solT_keep (R:Nat -> Nat -> Cx) (k n:Nat):∀ (s t j:Nat),t + s <= n -> n - t <= j -> solT R k n (t + s) j = solT R k n t j:=by
 intro s
 induction s with
 | zero=>intro t j _ _; rfl
 | succ s ih =>
  intro t j h1 h2
  rw [<- Nat.add_assoc,solT,upf_other _ _ oM,ih t j oM h2]
theorem solX_at (R:Nat -> Nat -> Cx) (k n c:Nat) (hc:c < n):solX R k n c = (subF R c (solX R k n) (R c k) (c + 1) (n - 1 - c)).div (R c c):=by
 obtain ⟨t,ht⟩:∃ t,t = n - 1 - c:=⟨_,rfl⟩
 have e:n - 1 - t = c:=oM
 have h1:solX R k n c = solT R k n (t + 1) c:=by
  unfold solX
  have:=solT_keep R k n (n - (t + 1)) (t + 1) c oM oM
  rwa [show t + 1 + (n - (t + 1)) = n by omega] at this
 rw [h1,solT,e,upf_same,<- ht]
 congr 1
 rw [subF_sum,subF_sum]
 congr 1
 refine sm_congr _ _ fun j h2 h3=>?_
 have h4:=solT_keep R k n (n - t) t j oM oM
 rw [show t + (n - t) = n by omega] at h4
 show _ = (R c j).mul (solT R k n n j)
 rw [h4]
theorem eff_row (R:Nat -> Nat -> Cx) (x:Nat -> Cx) (n c:Nat) (hc:c < n):sm (fun j=>(eff n R c j).mul (x j)) 0 n = ((R c c).mul (x c)).add (sm (fun j=>(R c j).mul (x j)) (c + 1) (n - 1 - c)):=by
 have e:n = c + (n - 1 - c + 1):=oM
 have h1:∀ j,j < c -> eff n R c j = .zero:=fun j hj=>if_pos oM
 have h2:∀ j,c <= j -> eff n R c j = R c j:=fun j hj=>if_neg oM
 have e2:sm (fun j=>(eff n R c j).mul (x j)) 0 n = sm (fun j=>(eff n R c j).mul (x j)) 0 (c + (n - 1 - c + 1)):=by rw [<- e]
 rw [e2,sm_split,sm_zero c 0 fun j _ hj=>by rw [h1 j oM,Cx.zero_mul],Cx.zero_add,sm,Nat.zero_add,h2 c lR]
 congr 1
 exact sm_congr _ _ fun j hj _=>by rw [h2 j oM]
theorem solX_solves (R:Nat -> Nat -> Cx) (k n:Nat) (h:∀ i,i < n -> R i i ≠ .zero):Solves n (eff n R) (fun i=>R i k) (solX R k n):=fun c hc=>by
 rw [eff_row _ _ _ _ hc,solX_at R k n c hc,Cx.mul_comm (R c c),Cx.div_mul' _ (h c hc),subF_sum]
 generalize sm (fun i=>(R c i).mul (solX R k n i)) (c + 1) (n - 1 - c) = u
 apply Cx.ext <;> simp only [Cx.sub,Cx.add] <;> grind
theorem Cx.mul_cancel {x y z:Cx} (h:x ≠ .zero) (e:x.mul y = x.mul z):y = z:=by
 have h1:∀ u:Cx,(x.mul u).div x = u:=fun u=>by
  rw [Cx.div,Cx.mul_comm x u,Cx.mul_assoc]
  have h2:=Cx.div_mul (.int 1) h
  rw [Cx.div,Cx.one_mul,Cx.mul_comm] at h2
  rw [h2,Cx.mul_one]
 rw [<- h1 y,e,h1 z]
theorem elim_solves {n k:Nat} (hk:n <= k) (F:Nat -> Nat -> Cx) (h:(elimS n n 0 F 0).1 = n):Solves n F (fun i=>F i k) (solX (elimS n n 0 F 0).2.2 k n):=by
 have h1:=elimS_solves n k hk (solX (elimS n n 0 F 0).2.2 k n) n 0 F 0 oM h
 rw [eff_zero] at h1
 exact h1.2 (solX_solves _ k n fun i hi=>elimS_diag n n 0 F 0 oM h i oM hi)
def rkS (rows:Nat):Nat -> Nat -> Nat -> (Nat -> Nat -> Cx) -> Nat
 | 0,_,r,_=>r
 | d + 1,c,r,F=>if r < rows then (if pivF F c r (rows - r) < 0 then rkS rows d (c + 1) r F else rkS rows d (c + 1) (r + 1) (clearF (swp F r (pivF F c r (rows - r)).toNat) r c rows)) else r
def idF:Nat -> Nat -> Cx:=fun i k=>if i = k then .int 1 else .zero
end Go.Proofs.YtffegeaflohfhaaGreatDoor
namespace Go.Proofs.YtffegeaflohfhaaGreatDoor
open Go.RowKit
section
variable {P:Program} {ops:Array Oper} {a0:Act}
theorem region_last1 {id:Nat} {dr:Bool} {w:World} {Q:Exit -> Act -> World -> Prop} (kl:List RK) (hm:P.follows .mixedOrders = true) (hb:backB ops = true) (hd:dstB ops a0.tmps.size = true) (hl:looksB ops = true) (hkd:kindB ops kl = true)
  (hst:stabs (hasPut kl) kl) (hlen:kl.length + 1 = ops.size) {ol:Oper} (hol:ops.toList[kl.length]? = some ol) (fr:Nat) {fo:Oper} (hof:ops.toList[fr]? = some fo) (hfrk:rk kl fr = .val fun _ _=>True)
  (hlast:(ol.dst.isNone && ol.guard.isNone && fo.guard.isNone && decide (fr < kl.length) && !predB ops kl.length fr && (List.range kl.length).all (fun j=>j == fr || predB ops kl.length j) && (List.range kl.length).all fun j=>!predB ops j fr) = true)
  (hob:AllOb P ops kl w.heap.size w a0 (ops.toList.take kl.length) kl 0)
  (hfr:∀ (ts:Nat -> Value) (W:World),(∀ i p,i < kl.length -> i ≠ fr -> rk kl i = .val p -> p (ts i) W) -> ∃ v,∀ W',(execOp (Act.eval ⟨fillT ts ops.toList 0 a0.tmps,a0.defers⟩) fo).run P W' = .ok (.value v) W')
  (fin:∀ (ts:Nat -> Value) (W:World),Below w.heap.size w W -> (∀ i,i < kl.length -> Held kl w.heap.size ts (fun _=>true) W i) ->
   (∀ i j,i < kl.length -> j < kl.length -> i ≠ j -> (match rk kl i,rk kl j with | .box _ _,.box _ _=>ts i ≠ ts j | _,_=>True)) ->
   ∀ K:Act -> World -> Prop,(∀ a' W',Q .normal a' W' -> K a' W') -> Goes (Oper.wp P ol ⟨fillT ts ops.toList 0 a0.tmps,a0.defers⟩ W K (fun _ _ _=>False))) :
  (Code.region id ops dr).wp P Q a0 w:=by
 replace hol:ops[kl.length]? = some ol:=by simpa using hol
 replace hof:ops[fr]? = some fo:=by simpa using hof
 simp only [Bool.and_eq_true,decide_eq_true_eq] at hlast
 obtain ⟨⟨⟨⟨⟨⟨hld,hlg⟩,hfg⟩,hfl⟩,hnf⟩,hlp⟩,hnb⟩:=hlast
 have hld':ol.dst = none:=by simpa using hld
 have hlg':ol.guard = none:=by simpa using hlg
 have hfg':fo.guard = none:=by simpa using hfg
 have hnf':predB ops kl.length fr = false:=by simpa using hnf
 have hstab:∀ j p,rk kl j = .val p -> StabB p:=fun j p h=>hst.b j p h
 have hpred:∀ j,j < kl.length -> j ≠ fr -> ∃ e ∈ ol.after,Region.binds .any e = true /\ e.on = j:=fun j hj hjf=>by
  have h1:=List.all_eq_true.1 hlp j (List.mem_range.2 hj)
  simp only [Bool.or_eq_true,beq_iff_eq] at h1
  rcases h1 with h1 | h1
  ·exact absurd h1 hjf
  ·obtain ⟨e,he,hbd,heq⟩:=predB_spec hol h1
   exact ⟨e,he,hbd,heq⟩
 have hrest:∀ (i:Nat) (o:Oper),ops[i]? = some o -> kl.length <= i -> o.dst = none:=fun i o ho hi=>by
  have:=lt_of_op ho
  obtain rfl:i = kl.length:=oM
  rw [hol] at ho; cases ho; exact hld'
 have wantL:∀ l,Region.wanted ol l = true:=fun l=>by unfold Region.wanted; rw [hlg']
 have wantF:∀ l,Region.wanted fo l = true:=fun l=>by unfold Region.wanted; rw [hfg']
 obtain ⟨df,hdf⟩:∃ d,fo.dst = some d:=kind_val hkd hfl hof hfrk
 refine wp_region_lin' (fun L a W=>(L kl.length = false /\ ∃ ts,Lin ops kl w.heap.size w a0 L ts a W) ∨ ((∀ j,j < ops.size -> L j = true) /\ Q .normal a W) ∨
  (L fr = false /\ L kl.length = true /\ (∀ j,j < kl.length -> j ≠ fr -> L j = true) /\ ∃ v,(∀ W',(execOp a.eval fo).run P W' = .ok (.value v) W') /\ Q .normal (a.put fo.dst v) W)) hm hb ?_ ?_ fun w' hw'=>.inl ⟨rfl,lin_start hw'⟩
 ·rintro L a W (⟨hn,ts,h⟩ | ⟨hall,-⟩ | ⟨hLf,hLl,hrst,v,hv,hq⟩) i o ho hLi hpre
  ·by_cases hi:i = kl.length
   ·subst hi
    rw [hol] at ho
    cases ho
    have hoth:∀ j,j < kl.length -> j ≠ fr -> L j = true:=fun j hj hjf=>by
     obtain ⟨e,he,hbd,rfl⟩:=hpred j hj hjf
     exact hpre e he hbd
    unfold wpOp
    rw [hol]
    simp only [wantL,if_true]
    left
    by_cases hLt:L fr = true
    rotate_left
    ·-- the free one has not come up: it is as if it had
     have hLf:L fr = false:=by simpa using hLt
     have hpf:∀ e ∈ fo.after,Region.binds .any e = true -> L e.on = true:=fun e he hbd=>by
      have h1:=backB_spec hb hof e he hbd
      exact hoth e.on oM oM
     have e1:=execOp_lin hd hl h hof hpf
     obtain ⟨v,hv⟩:=hfr ts W fun i p hi hif hk=>by
      have:=h.held i oM (hoth i hi hif)
      unfold Held at this
      rw [hk] at this
      exact this
     rw [e1] at hv
     have hfull:=h.val hd hkd hstab hfl hof hLf hpf h.below.size (v:=v) (W':=W) rfB (by unfold Held; rw [hfrk]; trivial) (fun T z hk=>by rw [hfrk] at hk; cases hk)
     obtain ⟨ha,h1,h2⟩:=lin_fin hd hfull oM (fun j hj=>by
      by_cases hjf:j = fr
      ·simp [hjf]
      ·simp [hoth j hj hjf]) hrest
     have hfin:=(fin _ W hfull.below h1 h2 (Q .normal) (fun _ _ h=>h)).out
     rw [<- ha] at hfin
     have e2:execOp (a.put fo.dst v).eval ol = execOp a.eval ol:=by
      obtain ⟨-,hs,hx⟩:=looksB_spec hl hol
      refine execOp_congr ol hs fun x hxo=>?_
      cases x with
      | tmp t =>
       show (a.put fo.dst v).tmps.getD t undef = a.tmps.getD t undef
       have hne:df ≠ t:=fun e=>by
        rcases hx t hxo with ⟨e',he',hbd,o',ho',hd'⟩ | hno
        ·have h3:=dstB_one hd ho' hof hd' (e ▸ hdf)
         have h4:predB ops kl.length fr = true:=by
          unfold predB
          rw [hol]
          simp only [Option.map_some,Option.getD_some,List.any_eq_true]
          exact ⟨e',by simpa using he',by simp [hbd,h3]⟩
         rw [hnf'] at h4; cases h4
        ·exact hno fr fo hof (e ▸ hdf)
       rw [hdf]
       simp only [Act.put,Array.getD_eq_getD_getElem?,Array.getElem?_setIfInBounds,if_neg hne]
      | _=>rfl
     have hJ:∀ j,j < kl.length -> j ≠ fr -> (j == kl.length || L j) = true:=fun j hj hjf=>by simp [hoth j hj hjf]
     have hfne:(fr == kl.length || L fr) = false:=by
      have:(fr == kl.length) = false:=sO
      simp [this,hLf]
     unfold Oper.wp at hfin ⊢
     rw [e2] at hfin
     have done:∀ {u:Value} {w':World},Q .normal ((a.put fo.dst v).put ol.dst u) w' -> (fun a' w'=>((kl.length == kl.length || L kl.length) = false /\ ∃ ts,Lin ops kl w.heap.size w a0 (fun j=>j == kl.length || L j) ts a' w') ∨ ((∀ j,j < ops.size -> (j == kl.length || L j) = true) /\ Q .normal a' w') ∨
       ((fr == kl.length || L fr) = false /\ (kl.length == kl.length || L kl.length) = true /\ (∀ j,j < kl.length -> j ≠ fr -> (j == kl.length || L j) = true) /\ ∃ v,(∀ W',(execOp a'.eval fo).run P W' = .ok (.value v) W') /\ Q .normal (a'.put fo.dst v) w')) (a.put ol.dst u) w':=fun {u w'} hq=>by
      rw [hld'] at hq ⊢
      exact .inr (.inr ⟨hfne,sP,hJ,v,hv,hq⟩)
     generalize (execOp a.eval ol).run P W = r at *
     cases r with
     | ok n w' =>
      cases n <;> simp only [Oper.upon] at hfin ⊢
      case value u=>exact done hfin
      case skip=>exact done hfin
      case defer d' =>
       rw [hld'] at hfin ⊢
       refine .inr (.inr ⟨hfne,sP,hJ,v,hv,?_⟩)
       rw [hdf] at hfin ⊢
       exact hfin
      case enter f args =>
       refine Calls.mono hfin fun e w'' h'=>?_
       cases e with
       | returned u=>exact done h'
       | panicked c=>exact h'.elim
       | outgrown=>obtain ⟨_,_,h⟩:=h'; exact h.elim
      case row row args=>exact Rows.mono hfin fun u w'' h'=>done h'
     | halt x w'=>cases x <;> simp only [Oper.upon] at hfin ⊢
    ·have hall:∀ j,j < kl.length -> L j = true:=fun j hj=>by
      by_cases hjf:j = fr
      ·rw [hjf]; exact hLt
      ·exact hoth j hj hjf
     obtain ⟨ha,h1,h2⟩:=lin_fin hd h oM hall hrest
     have hfin:=(fin ts W h.below h1 h2 (Q .normal) (fun _ _ h=>h)).out
     rw [<- ha] at hfin
     have hfin':Oper.wp P ol a W (Q .normal) Q:=by
      unfold Oper.wp at hfin ⊢
      generalize (execOp a.eval ol).run P W = r at *
      cases r with
      | ok n w' =>
       cases n <;> simp only [Oper.upon] at hfin ⊢ <;> try exact hfin
       case enter f args =>
        refine Calls.mono hfin fun e w'' h'=>?_
        cases e with
        | returned u=>exact h'
        | panicked c=>exact h'.elim
        | outgrown=>obtain ⟨_,_,h⟩:=h'; exact h.elim
      | halt x w'=>cases x <;> simp only [Oper.upon] at hfin ⊢
     refine Oper.wp_mono (fun a' w' hq=>.inr (.inl ⟨fun j hj=>?_,hq⟩)) hfin'
     by_cases hjk:j = kl.length
     ·simp [hjk]
     ·simp [hall j oM]
   ·have hi':i < kl.length:=by have:=lt_of_op ho; omega
    refine wpOp_mono (fun a' w' hh=>.inl ⟨?_,hh⟩) (lin_step hb hd hl hkd hst hob h hi' ho hLi hpre)
    have:(kl.length == i) = false:=by simpa using fun e=>hi (Eq.symm e)
    simp [this,hn]
  ·rw [hall i (lt_of_op ho)] at hLi; cases hLi
  ·have hif:i = fr:=by
    rcases Nat.lt_or_ge i kl.length with h1 | h1
    ·exact Classical.byContradiction fun hne=>by rw [hrst i h1 hne] at hLi; cases hLi
    ·have:=lt_of_op ho
     obtain rfl:i = kl.length:=oM
     rw [hLl] at hLi; cases hLi
   subst hif
   rw [hof] at ho
   cases ho
   unfold wpOp
   rw [hof]
   simp only [wantF,if_true]
   left
   unfold Oper.wp
   rw [hv W]
   refine .inr (.inl ⟨fun j hj=>?_,hq⟩)
   by_cases hji:j = i
   ·simp [hji]
   ·by_cases hjk:j = kl.length
    ·simp [hjk,hLl]
    ·simp [hrst j oM hji]
 ·rintro L a W (⟨hn,-⟩ | ⟨-,hq⟩ | ⟨hLf,-⟩) hall
  ·rw [hall _ oM] at hn; cases hn
  ·exact hq
  ·rw [hall _ oM] at hLf; cases hLf
end
end Go.Proofs.YtffegeaflohfhaaGreatDoor
namespace Go.Proofs.YtffegeaflohfhaaGreatDoor
open Go.RowKit
def RetRow (w:World) (n:Nat) (f:Nat -> Cx) (e:Ending) (w':World):Prop:=∃ g,e = .returned (.slice (some ⟨g,0,none⟩) n n) /\ NBlk w' g n f /\ w.heap.size <= g /\ Below w.heap.size w w'
theorem blankN_any (w:World) (n m:Nat) (hn:n <= 1073741824) (hm:m <= 1073741824) :
  Calls Tryz.prog 61 #[.int .i64 n,.int .i64 m] w (RetMat w n m (fun _ _=>.zero)):=by
 obtain ⟨W1,hr1,hb1,hs1,hP⟩:=make_mat n m oM w (fun _ _=>.zero) (fun _=>0)
 have HB:=hid hb1
 have HP:=hid hP
 have HS:=hid hs1
 clear hb1 hP hs1
 go_enter Tryz.func61,Tryz.ntmps61
 go_wp2
 clear hr1
 go_loopw [11] (fun i wr=>∃ (k:Nat) (g2:Nat -> Nat),i = .int .i64 k /\ k <= n /\ Below w.heap.size w wr /\ PMat w.heap.size wr w.heap.size g2 n m k (fun _ _=>.zero)) (fun i _=>n - (intOf i).toNat)
 case atStart=>exact ⟨0,fun _=>0,rfl,oM,HB.out,HP.out⟩
 case round =>
  obtain ⟨k,g2,rfl,hk,hB,hP⟩:=hrel
  have KB:=hid hB
  by_cases hlt:k < n
  ·obtain ⟨W2,hr2,hb2,hs2,hN2⟩:=make_row m oM wr
   have P2:=hP.below hb2
   have f1:=P2.cell_nil (Nat.le_refl k) hlt
   have f2:=P2.frozen k
   obtain ⟨P3,hB2,hE2⟩:=hP.row hb2 lR hN2 hlt
   have K4:=hid P3
   have L4:=hid (hB2.below (bT hB hb2) lR)
   clear P3 hB2 hE2 P2 hP hB hb2 hs2 hN2
   go_wp2
   go_roundw
   case rel=>exact ⟨k + 1,upf g2 k wr.heap.size,by go_num,oM,L4.out,K4.out⟩
   case measure=>exact mS
  ·obtain rfl:k = n:=oM
   obtain ⟨h1,h2⟩:=hP.done
   clear hB hP
   go_wp2
   go_ret
   exact ⟨_,_,rfl,h1,h2,KB.out⟩
def szX (S:Nat):Nat -> Nat
 | 0=>1
 | t + 1=>szX S t + (S + t * (S + szX S t + 2)) + 2 * S + 2
theorem szX_mono (S:Nat):∀ {a b:Nat},a <= b -> szX S a <= szX S b:=by
 intro a b h
 induction h with
 | refl=>exact Nat.le_refl _
 | step _ ih=>rw [szX]; omega
theorem subF_sz {G:Nat -> Nat -> Cx} {c:Nat} {x:Nat -> Cx} {S X:Nat} (hx:∀ j,Sz (x j) X):∀ (d j:Nat) (s:Cx) (Y:Nat),Sz s Y -> (∀ i,j <= i -> i < j + d -> Sz (G c i) S) -> Sz (subF G c x s j d) (Y + d * (S + X + 2)):=by
 intro d
 induction d with
 | zero=>intro j s Y hs _; rw [Nat.zero_mul,Nat.add_zero]; exact hs
 | succ d ih =>
  intro j s Y hs hG
  have h1:=hs.sub ((hG j lR oM).mul (hx j))
  have h2:=ih (j + 1) _ _ h1 fun i a b=>hG i oM oM
  refine h2.mono ?_
  rw [Nat.add_mul]; omega
theorem solT_sz {G:Nat -> Nat -> Cx} {n m k S:Nat} (hS:∀ a b,a < n -> b < m -> Sz (G a b) S) (hk:k < m) (hnm:n <= m):∀ t,t <= n -> ∀ j,Sz (solT G k n t j) (szX S t):=by
 intro t
 induction t with
 | zero=>intro _ j; exact Sz.zero (by rw [szX]; omega)
 | succ t ih =>
  intro ht j
  have h0:=ih oM
  rw [solT]
  by_cases hj:j = n - 1 - t
  ·rw [hj,upf_same]
   have h1:=subF_sz h0 (G:=G) (c:=n - 1 - t) (S:=S) t (n - 1 - t + 1) (G (n - 1 - t) k) S (hS _ _ oM hk) fun i a b=>hS _ _ oM oM
   have h2:=h1.div (hS (n - 1 - t) (n - 1 - t) oM oM)
   exact h2.mono (by rw [szX]; omega)
  ·rw [upf_other _ _ hj]
   exact (h0 j).mono (szX_mono S oM)
theorem substituteN_any (w:World) (go:Nat) (gi:Nat -> Nat) (n m k S:Nat) (G:Nat -> Nat -> Cx) (h:MatAt w go gi n m G) (hnm:n <= m) (hk:k < m) (hm:m <= 1073741824) (hT:Tab w) (hS:∀ a b,a < n -> b < m -> Sz (G a b) S)
  (hD:∀ i,i < n -> G i i ≠ .zero) (h5:S + n * (S + szX S n + 2) + 5 * S + szX S n + 10 < 549755813888) :
  Calls Tryz.prog 54 #[.slice (some ⟨go,0,none⟩) n n,.int .i64 k] w (RetRow w n (solX G k n)):=by
 have hsx:=fun t (ht:t <= n) j=>(solT_sz hS hk hnm t ht j).mono (szX_mono S ht)
 obtain ⟨X,hX⟩:∃ X,X = szX S n:=⟨_,rfl⟩
 rw [<- hX] at h5
 simp only [<- hX] at hsx
 clear hX
 obtain ⟨Y,hYY⟩:∃ Y,Y = S + n * (S + X + 2):=⟨_,rfl⟩
 rw [<- hYY] at h5
 have hsy:∀ c t d,c < n -> t <= n -> c + 1 + d <= n -> Sz (subF G c (solT G k n t) (G c k) (c + 1) d) Y:=fun c t d hc ht hd=>by
  refine (subF_sz (S:=S) (hsx t ht) d (c + 1) (G c k) S (hS _ _ hc hk) fun i a b=>hS _ _ hc oM).mono ?_
  rw [hYY]
  have:=Nat.mul_le_mul_right (S + X + 2) (show d <= n by omega)
  omega
 clear hYY
 have H0:=hid h
 have HS:=hid hS
 have HT:=hid hT
 have HDG:=hid hD
 have HSX0:=hid hsx
 have HSY0:=hid hsy
 clear h hS hT hD hsx hsy
 obtain ⟨W1,hr1,hb1,hs1,hN⟩:=make_row n oM w
 have HB:=hid hb1
 have HN:=hid hN
 clear hb1 hN
 go_enter Tryz.func54,Tryz.ntmps54
 go_wp2
 clear hr1 hs1
 go_loopw [6] (fun j wr=>∃ (c1:Nat) (z:Int),j = .int .i64 z /\ z = (c1:Int) - 1 /\ c1 <= n /\ NBlk wr w.heap.size n (solT G k n (n - c1)) /\ Below w.heap.size w wr) (fun j _=>(intOf j + 1).toNat)
 case atStart=>exact ⟨n,(n:Int) - 1,by go_num,rfl,Nat.le_refl _,by rw [Nat.sub_self]; exact HN.out,HB.out⟩
 case round =>
  obtain ⟨c1,z,rfl,hz,hc1,hNX,hB⟩:=hrel
  have KB:=hid hB
  have H:=hid (H0.out.below hB)
  have HX:=hid hNX
  have hlw:w.heap.size < wr.heap.size:=hNX.lt
  clear hB hNX
  rcases Nat.eq_zero_or_pos c1 with h0 | h0
  ·subst h0
   have hz1:¬ ((0:Int) <= z):=oM
   clear hz
   go_wp2
   go_ret
   exact ⟨_,rfl,HX.out,Nat.le_refl _,KB.out⟩
  ·obtain ⟨c,rfl⟩:∃ c,c1 = c + 1:=⟨c1 - 1,oM⟩
   obtain rfl:z = (c:Int):=oM
   clear hz h0
   obtain ⟨t,ht⟩:∃ t,t = n - (c + 1):=⟨_,rfl⟩
   rw [<- ht] at HX
   have HTT:=hid ht
   clear ht
   have hc:c < n:=hc1
   have hcm:c < m:=oM
   have HSX:=hid (HSX0.out t (by have:=HTT.out; omega))
   go_upto_region 5 with fail
   refine region_lin [.val (kIs (.slice (some ⟨go,0,none⟩) n n)),.val (kIs (.int .i64 (c:Int))),.val (kIs (.pointer (some ⟨go,c,none⟩))),.val (kIs (.slice (some ⟨gi c,0,none⟩) m m)),.val (kIs (.int .i64 (k:Int))),.val (kIs (.pointer (some ⟨(gi c),5 * k,none⟩))),.val (kNum (G c k)),.box 35 zNum,.put 7 6]
    kR kR kR kR kR ⟨stab_is _,stab_is _,stab_is _,stab_is _,stab_is _,stab_is _,stab_num _,trivial⟩ sP ⟨?_,?_,?_,?_,?_,?_,?_,alloc_num,store_num _,trivial⟩ ?_
   ·exact obp
   ·exact obp
   ·intro ts W hb hB hp; have h0:ts 0 = _:=hp 0 kR; have h1:ts 1 = _:=hp 1 kR; intro K hK; simp only [fillT,zA,Nat.reduceAdd,sA,sB,sC,h0,h1] at hK ⊢; have HK:=hid hK; clear hK hp; refine ⟨?_⟩; go_simp; exact HK.out _ _ rfl rfB
   ·intro ts W hb hB hp; have h2:ts 2 = _:=hp 2 kR; intro K hK; simp only [fillT,zA,Nat.reduceAdd,sA,sB,sC,h2] at hK ⊢; have HK:=hid hK; clear hK hp; have hcell:=(H.out.below hb).cell hc; refine ⟨?_⟩; go_simp; exact HK.out _ _ rfl rfB
   ·exact obp
   ·intro ts W hb hB hp; have h3:ts 3 = _:=hp 3 kR; have h4:ts 4 = _:=hp 4 kR; intro K hK; simp only [fillT,zA,Nat.reduceAdd,sA,sB,sC,h3,h4] at hK ⊢; have HK:=hid hK; clear hK hp; refine ⟨?_⟩; go_simp; exact HK.out _ _ (by simp [kIs,Nat.mul_comm]) rfB
   ·intro ts W hb hB hp; have h5:ts 5 = _:=hp 5 kR; intro K hK; simp only [fillT,zA,Nat.reduceAdd,sA,sB,sC,h5] at hK ⊢; have HK:=hid hK; clear hK hp; refine ⟨?_⟩; refine wp_load_elem rfl rfl ((H.out.row hc).below hb) hk (fun v hv=>HK.out _ _ (hv) rfB)
   intro ts W2 hb2 hh hap
   obtain ⟨g7,A7,n7,c7,p7,A7b,n7b,c7b,p7b,A7c,n7c,c7c,e7,lo7,z7,X7,N7⟩:=held_box (x:=G c k) (hh 7 sP) rfl (hh 8 sP) rfl (hh 6 sP) rfl
   simp only [fillT,zA,Nat.reduceAdd,sA,sB,sC,e7]
   clear hh hap e7
   generalize ts 0 = u0_W2 at *
   generalize ts 1 = u1_W2 at *
   generalize ts 2 = u2_W2 at *
   generalize ts 3 = u3_W2 at *
   generalize ts 4 = u4_W2 at *
   generalize ts 5 = u5_W2 at *
   generalize ts 6 = u6_W2 at *
   clear ts
   have HX2:=hid (HX.out.below hb2)
   have KB2:=hid (bT KB.out hb2)
   have hg7w:w.heap.size < g7:=oM
   have HX7:=hid X7
   clear hb2 lo7 X7 z7 H KB HX
   go_wp2
   go_loopw [8] (fun j wr=>∃ d jj:Nat,j = .int .i64 jj /\ jj = c + 1 + d /\ jj <= n /\ NBlk wr w.heap.size n (solT G k n t) /\ BoxNum wr g7 (subF G c (solT G k n t) (G c k) (c + 1) d) /\ Below w.heap.size w wr) (fun j _=>n - (intOf j).toNat)
   case atStart=>exact ⟨0,c + 1,by go_num,rfl,oM,HX2.out,.mk HX7.out N7,KB2.out⟩
   case round =>
    rename_i wr1
    clear HX2 HX7 N7 KB2
    obtain ⟨d,jj,rfl,hjj,hd,hNX,⟨A7,n7,c7,p7,A7b,n7b,c7b,p7b,A7c,n7c,c7c,X7,N7⟩,hB⟩:=hrel
    have HJ:=hid hjj
    have KB2:=hid hB
    have H:=hid (H0.out.below hB)
    have HX:=hid hNX
    have z7:g7 < wr.heap.size:=heap_ge_none X7
    have hBr:w.heap.size <= wr.heap.size:=hB.size
    clear hB hNX hjj
    by_cases hdn:jj < n
    ·have hdm:jj < m:=oM
     have hY:=HSY0.out c t d hc (by have:=HTT.out; omega) (by have:=HJ.out; omega)
     go_upto_region 9 with fail
     refine region_last [.val (kIs (.agg #[.slice A7 n7 c7,.bool p7,.slice A7b n7b c7b,.bool p7b,.slice A7c n7c c7c])),.val (kIfc (subF G c (solT G k n t) (G c k) (c + 1) d)),.val (kIs (.slice (some ⟨go,0,none⟩) n n)),.val (kIs (.int .i64 (c:Int))),.val (kIs (.pointer (some ⟨go,c,none⟩))),.val (kIs (.slice (some ⟨gi c,0,none⟩) m m)),.val (kIs (.int .i64 (jj:Int))),.val (kIs (.pointer (some ⟨(gi c),5 * jj,none⟩))),.val (kNum (G c jj)),.val (kIfc (G c jj)),.val (kIs (.slice (some ⟨w.heap.size,0,none⟩) n n)),.val (kIs (.int .i64 (jj:Int))),.val (kIs (.pointer (some ⟨w.heap.size,5 * jj,none⟩))),.val (kNum (solT G k n t jj)),.val (kNum ((G c jj).mul (solT G k n t jj))),.val (kNum ((subF G c (solT G k n t) (G c k) (c + 1) d).sub ((G c jj).mul (solT G k n t jj))))]
      kR kR kR kR kR ⟨Stab.b (stab_is _),Stab.b (stab_ifc _),Stab.b (stab_is _),Stab.b (stab_is _),Stab.b (stab_is _),Stab.b (stab_is _),Stab.b (stab_is _),Stab.b (stab_is _),Stab.b (stab_num _),Stab.b (stab_ifc _),Stab.b (stab_is _),Stab.b (stab_is _),Stab.b (stab_is _),Stab.b (stab_num _),Stab.b (stab_num _),Stab.b (stab_num _),trivial⟩ sP (ol:=_) rfl kR ⟨?_,?_,?_,?_,?_,?_,?_,?_,?_,?_,?_,?_,?_,?_,?_,?_,trivial⟩ ?_
     ·intro ts W hb hB hp K hK; simp only [fillT,zA,Nat.reduceAdd,sA,sB,sC] at hK ⊢; refine ⟨?_⟩; refine wp_load_row _ _ rfl (g7) rfl _ _ (0,0) _ ((hb.block _ (z7)).trans X7) Tryz.underlying35 rfl kR ?_; exact hK _ _ rfl rfB
     ·intro ts W hb hB hp; have h0:ts 0 = _:=hp 0 kR; intro K hK; simp only [fillT,zA,Nat.reduceAdd,sA,sB,sC,h0] at hK ⊢; have HK:=hid hK; clear hK hp; refine ⟨?_⟩; go_simp; exact HK.out _ _ ⟨_,rfl,N7.below hb⟩ rfB
     ·exact obp
     ·exact obp
     ·intro ts W hb hB hp; have h2:ts 2 = _:=hp 2 kR; have h3:ts 3 = _:=hp 3 kR; intro K hK; simp only [fillT,zA,Nat.reduceAdd,sA,sB,sC,h2,h3] at hK ⊢; have HK:=hid hK; clear hK hp; refine ⟨?_⟩; go_simp; exact HK.out _ _ rfl rfB
     ·intro ts W hb hB hp; have h4:ts 4 = _:=hp 4 kR; intro K hK; simp only [fillT,zA,Nat.reduceAdd,sA,sB,sC,h4] at hK ⊢; have HK:=hid hK; clear hK hp; have hcell:=(H.out.below hb).cell hc; refine ⟨?_⟩; go_simp; exact HK.out _ _ rfl rfB
     ·exact obp
     ·intro ts W hb hB hp; have h5:ts 5 = _:=hp 5 kR; have h6:ts 6 = _:=hp 6 kR; intro K hK; simp only [fillT,zA,Nat.reduceAdd,sA,sB,sC,h5,h6] at hK ⊢; have HK:=hid hK; clear hK hp; refine ⟨?_⟩; go_simp; exact HK.out _ _ (by simp [kIs,Nat.mul_comm]) rfB
     ·intro ts W hb hB hp; have h7:ts 7 = _:=hp 7 kR; intro K hK; simp only [fillT,zA,Nat.reduceAdd,sA,sB,sC,h7] at hK ⊢; have HK:=hid hK; clear hK hp; refine ⟨?_⟩; refine wp_load_elem rfl rfl ((H.out.row hc).below hb) hdm (fun v hv=>HK.out _ _ (hv) rfB)
     ·intro ts W hb hB hp; have h8:IsNum W (ts 8) (G c jj):=hp 8 kR; intro K hK; simp only [fillT,zA,Nat.reduceAdd,sA,sB,sC] at hK ⊢; have HK:=hid hK; clear hK hp; refine ⟨?_⟩; go_simp; exact HK.out _ _ ⟨_,rfl,h8⟩ rfB
     ·exact obp
     ·exact obp
     ·intro ts W hb hB hp; have h10:ts 10 = _:=hp 10 kR; have h11:ts 11 = _:=hp 11 kR; intro K hK; simp only [fillT,zA,Nat.reduceAdd,sA,sB,sC,h10,h11] at hK ⊢; have HK:=hid hK; clear hK hp; refine ⟨?_⟩; go_simp; exact HK.out _ _ (by simp [kIs,Nat.mul_comm]) rfB
     ·intro ts W hb hB hp; have h12:ts 12 = _:=hp 12 kR; intro K hK; simp only [fillT,zA,Nat.reduceAdd,sA,sB,sC,h12] at hK ⊢; have HK:=hid hK; clear hK hp; refine ⟨?_⟩; refine wp_load_elem rfl rfl (HX.out.below hb) hdn (fun v hv=>HK.out _ _ (hv) rfB)
     ·intro ts W hb hB hp; have h9:=hp 9 kR; have h13:IsNum W (ts 13) (solT G k n t jj):=hp 13 kR; intro K hK; simp only [fillT,zA,Nat.reduceAdd,sA,sB,sC] at hK ⊢; have HK:=hid hK; clear hK hp; obtain ⟨u9,e9,n9⟩:=h9; refine ⟨?_⟩; refine wp_invoke rfl (T:=35) (v:=u9) (xs:=#[u9,ts 13]) e9 inv_Mul (by simp [Act.eval]) ?_; refine (mulN_any u9 _ (G c jj) (solT G k n t jj) W n9 h13 (S) (X) (HS.out _ _ hc hdm) (HSX.out _) oM (HT.out.below (bT KB2.out hb))).mono ?_; rintro e W9 ⟨r9,rfl,hr9,hb9⟩; exact HK.out _ _ hr9 hb9
     ·intro ts W hb hB hp; have h1:=hp 1 kR; have h14:IsNum W (ts 14) ((G c jj).mul (solT G k n t jj)):=hp 14 kR; intro K hK; simp only [fillT,zA,Nat.reduceAdd,sA,sB,sC] at hK ⊢; have HK:=hid hK; clear hK hp; obtain ⟨u1,e1,n1⟩:=h1; refine ⟨?_⟩; refine wp_invoke rfl (T:=35) (v:=u1) (xs:=#[u1,ts 14]) e1 inv_Sub (by simp [Act.eval]) ?_; refine (subN_any u1 _ (subF G c (solT G k n t) (G c k) (c + 1) d) ((G c jj).mul (solT G k n t jj)) W n1 h14 (Y) (S + X + 1) hY (Sz.mul (HS.out _ _ hc hdm) (HSX.out _)) oM (HT.out.below (bT KB2.out hb))).mono ?_; rintro e W9 ⟨r9,rfl,hr9,hb9⟩; exact HK.out _ _ hr9 hb9
     intro ts W3 hb3 hh hap K hK
     have h15:IsNum W3 (ts 15) ((subF G c (solT G k n t) (G c k) (c + 1) d).sub ((G c jj).mul (solT G k n t jj))):=held_num (hh 15 sP) rfl
     obtain ⟨A8,n8,c8,p8,A8b,n8b,c8b,p8b,A8c,n8c,c8c,ia,ib,id,hq,-⟩:=h15.parts
     have Y7:=(hb3.block g7 z7).trans X7
     have HK:=hid hK
     simp only [fillT,zA,Nat.reduceAdd,sA,sB,sC,hq]
     rw [hq] at h15
     clear hh hap hq hK
     refine ⟨?_⟩
     refine wp_store_row _ _ _ rfl g7 _ rfl rfl _ _ Y7 kR rfl (by simp [Value.oneCell']) (HK.out _ _ ?_)
     have hput:=putAt_setRow (cs:=#[.slice A8 n8 c8,.bool p8,.slice A8b n8b c8b,.bool p8b,.slice A8c n8c c8c]) Y7
     have hext:=hput.ext Y7 rfl
     have X8:=hput.here
     have N8:=h15.ext hext
     have hbut:But W3 (W3.setRow g7 #[.slice A8 n8 c8,.bool p8,.slice A8b n8b c8b,.bool p8b,.slice A8c n8c c8c]) g7:=But.setRow _ _ _
     generalize W3.setRow g7 #[.slice A8 n8 c8,.bool p8,.slice A8b n8b c8b,.bool p8b,.slice A8c n8c c8c] = W4 at *
     clear hput
     have M4:=hid ((HX.out.below hb3).but hbut hext oM)
     have B4:=hid (hbut.below (bT KB2.out hb3) oM)
     have X84:=hid X8
     have N84:=hid (show IsNum W4 (.agg #[.slice A8 n8 c8,.bool p8,.slice A8b n8b c8b,.bool p8b,.slice A8c n8c c8c]) (subF G c (solT G k n t) (G c k) (c + 1) (d + 1)) by rw [subF_last,<- HJ.out]; exact N8)
     clear hbut hext X8 Y7 hb3 X7 N7 N8 z7 hY h15
     go_wp2
     go_roundw
     case rel=>exact ⟨d + 1,jj + 1,by go_num,by have:=HJ.out; omega,oM,M4.out,.mk X84.out N84.out,B4.out⟩
     case measure=>exact mS
    ·obtain rfl:d = t:=by have:=HJ.out; have:=HTT.out; omega
     have hY:=HSY0.out c d d hc (by have:=HTT.out; omega) (by have:=HJ.out; omega)
     go_upto_region 10 with fail
     refine region_last1 [.val (kIs (.slice (some ⟨w.heap.size,0,none⟩) n n)),.val (kIs (.int .i64 (c:Int))),.val (kIs (.agg #[.slice A7 n7 c7,.bool p7,.slice A7b n7b c7b,.bool p7b,.slice A7c n7c c7c])),.val (kIfc (subF G c (solT G k n d) (G c k) (c + 1) d)),.val (kIs (.slice (some ⟨go,0,none⟩) n n)),.val (kIs (.int .i64 (c:Int))),.val (kIs (.pointer (some ⟨go,c,none⟩))),.val (kIs (.slice (some ⟨gi c,0,none⟩) m m)),.val (kIs (.int .i64 (c:Int))),.val (kIs (.pointer (some ⟨(gi c),5 * c,none⟩))),.val (kNum (G c c)),.val (kTup ((subF G c (solT G k n d) (G c k) (c + 1) d).div (G c c)) 0),.val (kTup ((subF G c (solT G k n d) (G c k) (c + 1) d).div (G c c)) 0),.val (kNum ((subF G c (solT G k n d) (G c k) (c + 1) d).div (G c c))),.val ((fun _ _=>True)),.val (kIs (.pointer (some ⟨w.heap.size,5 * c,none⟩)))]
      kR kR kR kR kR ⟨Stab.b (stab_is _),Stab.b (stab_is _),Stab.b (stab_is _),Stab.b (stab_ifc _),Stab.b (stab_is _),Stab.b (stab_is _),Stab.b (stab_is _),Stab.b (stab_is _),Stab.b (stab_is _),Stab.b (stab_is _),Stab.b (stab_num _),Stab.b (stab_tup _ _),Stab.b (stab_tup _ _),Stab.b (stab_num _),Stab.b ((fun _ _ _ _ _=>trivial)),Stab.b (stab_is _),trivial⟩ sP (ol:=_) rfl 14 (fo:=_) rfl rfl kR ⟨?_,?_,?_,?_,?_,?_,?_,?_,?_,?_,?_,?_,?_,?_,?_,?_,trivial⟩ ?_ ?_
     ·exact obp
     ·exact obp
     ·intro ts W hb hB hp K hK; simp only [fillT,zA,Nat.reduceAdd,sA,sB,sC] at hK ⊢; refine ⟨?_⟩; refine wp_load_row _ _ rfl (g7) rfl _ _ (0,0) _ ((hb.block _ (z7)).trans X7) Tryz.underlying35 rfl kR ?_; exact hK _ _ rfl rfB
     ·intro ts W hb hB hp; have h2:ts 2 = _:=hp 2 kR; intro K hK; simp only [fillT,zA,Nat.reduceAdd,sA,sB,sC,h2] at hK ⊢; have HK:=hid hK; clear hK hp; refine ⟨?_⟩; go_simp; exact HK.out _ _ ⟨_,rfl,N7.below hb⟩ rfB
     ·exact obp
     ·exact obp
     ·intro ts W hb hB hp; have h4:ts 4 = _:=hp 4 kR; have h5:ts 5 = _:=hp 5 kR; intro K hK; simp only [fillT,zA,Nat.reduceAdd,sA,sB,sC,h4,h5] at hK ⊢; have HK:=hid hK; clear hK hp; refine ⟨?_⟩; go_simp; exact HK.out _ _ rfl rfB
     ·intro ts W hb hB hp; have h6:ts 6 = _:=hp 6 kR; intro K hK; simp only [fillT,zA,Nat.reduceAdd,sA,sB,sC,h6] at hK ⊢; have HK:=hid hK; clear hK hp; have hcell:=(H.out.below hb).cell hc; refine ⟨?_⟩; go_simp; exact HK.out _ _ rfl rfB
     ·exact obp
     ·intro ts W hb hB hp; have h7:ts 7 = _:=hp 7 kR; have h8:ts 8 = _:=hp 8 kR; intro K hK; simp only [fillT,zA,Nat.reduceAdd,sA,sB,sC,h7,h8] at hK ⊢; have HK:=hid hK; clear hK hp; refine ⟨?_⟩; go_simp; exact HK.out _ _ (by simp [kIs,Nat.mul_comm]) rfB
     ·intro ts W hb hB hp; have h9:ts 9 = _:=hp 9 kR; intro K hK; simp only [fillT,zA,Nat.reduceAdd,sA,sB,sC,h9] at hK ⊢; have HK:=hid hK; clear hK hp; refine ⟨?_⟩; refine wp_load_elem rfl rfl ((H.out.row hc).below hb) hcm (fun v hv=>HK.out _ _ (hv) rfB)
     ·intro ts W hb hB hp; have h3:=hp 3 kR; have h10:IsNum W (ts 10) (G c c):=hp 10 kR; intro K hK; simp only [fillT,zA,Nat.reduceAdd,sA,sB,sC] at hK ⊢; have HK:=hid hK; clear hK hp; obtain ⟨u3,e3,n3⟩:=h3; refine ⟨?_⟩; refine wp_invoke rfl (T:=35) (v:=u3) (xs:=#[u3,ts 10]) e3 inv_Div (by simp [Act.eval]) ?_; refine (divN_k u3 _ (subF G c (solT G k n d) (G c k) (c + 1) d) (G c c) W n3 h10 (Y) (S) hY (HS.out _ _ hc hcm) oM (HT.out.below (bT KB2.out hb)) (div_ok (HDG.out c hc))).mono ?_; rintro e W9 ⟨r9,rfl,hr9,hb9⟩; exact HK.out _ _ ⟨r9,rfl,hr9⟩ hb9
     ·intro ts W hb hB hp; have h11:=hp 11 kR; intro K hK; simp only [fillT,zA,Nat.reduceAdd,sA,sB,sC] at hK ⊢; have HK:=hid hK; clear hK hp; refine ⟨?_⟩; go_simp; exact HK.out _ _ h11 rfB
     ·intro ts W hb hB hp; have h12:=hp 12 kR; intro K hK; obtain ⟨u12,e12,n12⟩:=h12; simp only [fillT,zA,Nat.reduceAdd,sA,sB,sC,e12] at hK ⊢; have HK:=hid hK; clear hK hp; refine ⟨?_⟩; go_simp; exact HK.out _ _ n12 rfB
     ·intro ts W hb hB hp; have h12:=hp 12 kR; intro K hK; obtain ⟨u12,e12,n12⟩:=h12; simp only [fillT,zA,Nat.reduceAdd,sA,sB,sC,e12] at hK ⊢; have HK:=hid hK; clear hK hp; refine ⟨?_⟩; go_simp; exact HK.out _ _ trivial rfB
     ·intro ts W hb hB hp; have h0:ts 0 = _:=hp 0 kR; have h1:ts 1 = _:=hp 1 kR; intro K hK; simp only [fillT,zA,Nat.reduceAdd,sA,sB,sC,h0,h1] at hK ⊢; have HK:=hid hK; clear hK hp; refine ⟨?_⟩; go_simp; exact HK.out _ _ (by simp [kIs,Nat.mul_comm]) rfB
     ·intro ts W hp
      obtain ⟨u12,e12,n12⟩:=hp 12 (kTup ((subF G c (solT G k n d) (G c k) (c + 1) d).div (G c c)) 0) sP dE rfl
      refine ⟨.int .i64 0,fun W9=>?_⟩
      simp only [fillT,zA,Nat.reduceAdd,sA,sB,sC,e12]
      rfl
     intro ts W3 hb3 hh hap K hK
     have h13:=held_num (hh 13 sP) rfl
     have e15:=held_is (hh 15 sP) rfl
     have HK:=hid hK
     clear hK hh hap
     simp only [fillT,zA,Nat.reduceAdd,sA,sB,sC,e15]
     refine ⟨?_⟩
     refine wp_store_elem rfl (k:=c) rfl rfl (HX.out.below hb3) hc h13 (fun W4 hbut hext hrow=>HK.out _ _ ?_)
     clear e15 h13
     have e4:n - 1 - d = c:=by have:=HTT.out; omega
     have M4:=hid (show NBlk W4 w.heap.size n (solT G k n (n - c)) by rw [show n - c = d + 1 by have:=HTT.out; omega,solT,e4]; exact hrow)
     have B4:=hid (hbut.below (bT KB2.out hb3) lR)
     clear hbut hext hrow e4 X7 N7 z7 hY hb3
     go_wp2
     go_roundw
     case rel=>exact ⟨c,(c:Int) - 1,by go_num,rfl,oM,M4.out,B4.out⟩
     case measure=>simp [intOf] <;> omega
end Go.Proofs.YtffegeaflohfhaaGreatDoor
