import Derived.Test.YtffegeaflohfhaaGreatDoorS13
import Derived.Test.YtffegeaflohfhaaGreatDoorS23
import Derived.Test.YtffegeaflohfhaaGreatDoorS27
import Derived.Test.YtffegeaflohfhaaGreatDoorU27
import Derived.Test.YtffegeaflohfhaaGreatDoorU15
import Derived.Test.YtffegeaflohfhaaGreatDoorS02
set_option linter.unusedVariables false
set_option linter.unusedSimpArgs false
set_option maxRecDepth 100000
set_option maxHeartbeats 8000000
namespace Go.Proofs.YtffegeaflohfhaaGreatDoor
open Go.RowKit
section
variable (x y z:Cx)
theorem Cx.add_assoc:(x.add y).add z = x.add (y.add z):=by apply Cx.ext <;> simp only [Cx.add] <;> grind
theorem Cx.mul_comm:x.mul y = y.mul x:=by apply Cx.ext <;> simp only [Cx.mul] <;> grind
theorem Cx.mul_assoc:(x.mul y).mul z = x.mul (y.mul z):=by apply Cx.ext <;> simp only [Cx.mul] <;> grind
theorem Cx.mul_add:x.mul (y.add z) = (x.mul y).add (x.mul z):=by apply Cx.ext <;> simp only [Cx.mul,Cx.add] <;> grind
theorem Cx.conj_add:(x.add y).conj = x.conj.add y.conj:=by apply Cx.ext <;> simp only [Cx.conj,Cx.add] <;> grind
theorem Cx.conj_mul:(x.mul y).conj = x.conj.mul y.conj:=by apply Cx.ext <;> simp only [Cx.conj,Cx.mul] <;> grind
theorem Cx.div_mul {y:Cx} (h:y ≠ .zero):(x.div y).mul y = x:=by
 have h0:=nrm_pos_ne h
 have hinv:y.inv.mul y = .int 1:=by
  apply Cx.ext
  ·simp only [Cx.inv,Cx.mul,Cx.int]
   have e:y.re / y.nrm * y.re - -y.im / y.nrm * y.im = (y.re * y.re + y.im * y.im) / y.nrm:=by grind
   rw [e]
   show y.nrm / y.nrm = _
   have:y.nrm / y.nrm = 1:=by grind
   rw [this]; rfl
  ·simp only [Cx.inv,Cx.mul,Cx.int]
   grind
 rw [Cx.div,Cx.mul_assoc,hinv]
 apply Cx.ext <;> simp [Cx.mul,Cx.int] <;> grind
end
theorem clearN_k (v:Value) (x:Cx) (w:World) (h:IsNum w v x) {b:Bool} (hb:(!decide (x = .zero)) = b) :
  Calls Tryz.prog 30 #[v] w fun e w'=>e = .returned (.bool b) /\ Below w.heap.size w w':=by
 have:=clear_any v x w h
 rwa [hb] at this
theorem clear_f {x:Cx} (h:x = .zero):(!decide (x = .zero)) = false:=by simp [h]
theorem cmpN_k (v u:Value) (x y:Cx) (w:World) (h:IsNum w v x) (h':IsNum w u y) (m n:Nat) (hx:Sz x m) (hy:Sz y n) (hm:m + n < 549755813888) {k:Int} (hk:cmpC x y = k) :
  Calls Tryz.prog 35 #[v,u] w fun e w'=>e = .returned (.int .i64 k) /\ Below w.heap.size w w':=by
 have:=cmpN_any' v u x y w h h' m n hx hy hm
 rwa [hk] at this
end Go.Proofs.YtffegeaflohfhaaGreatDoor
namespace Go.Proofs.YtffegeaflohfhaaGreatDoor
def sm (f:Nat -> Cx):Nat -> Nat -> Cx
 | _,0=>.zero
 | j,d + 1=>(f j).add (sm f (j + 1) d)
theorem sm_congr {f g:Nat -> Cx}:∀ (d j:Nat),(∀ i,j <= i -> i < j + d -> f i = g i) -> sm f j d = sm g j d:=by
 intro d
 induction d with
 | zero=>intro j _; rfl
 | succ d ih =>
  intro j h
  rw [sm,sm,h j lR oM,ih (j + 1) fun i h1 h2=>h i oM oM]
theorem Cx.zero_add (x:Cx):Cx.zero.add x = x:=by apply Cx.ext <;> simp only [Cx.add,Cx.zero] <;> grind
theorem Cx.add_zero (x:Cx):x.add Cx.zero = x:=by apply Cx.ext <;> simp only [Cx.add,Cx.zero] <;> grind
theorem Cx.zero_mul (x:Cx):Cx.zero.mul x = .zero:=by apply Cx.ext <;> simp only [Cx.mul,Cx.zero] <;> grind
theorem Cx.mul_zero (x:Cx):x.mul Cx.zero = .zero:=by apply Cx.ext <;> simp only [Cx.mul,Cx.zero] <;> grind
theorem Cx.one_mul (x:Cx):(Cx.int 1).mul x = x:=by apply Cx.ext <;> simp [Cx.mul,Cx.int] <;> grind
theorem Cx.mul_one (x:Cx):x.mul (Cx.int 1) = x:=by apply Cx.ext <;> simp [Cx.mul,Cx.int] <;> grind
theorem sm_zero {f:Nat -> Cx}:∀ (d j:Nat),(∀ i,j <= i -> i < j + d -> f i = .zero) -> sm f j d = .zero:=by
 intro d
 induction d with
 | zero=>intro j _; rfl
 | succ d ih =>
  intro j h
  rw [sm,h j lR oM,ih (j + 1) fun i h1 h2=>h i oM oM,Cx.zero_add]
theorem sm_split (f:Nat -> Cx):∀ (a j b:Nat),sm f j (a + b) = (sm f j a).add (sm f (j + a) b):=by
 intro a
 induction a with
 | zero=>intro j b; rw [Nat.zero_add,sm,Cx.zero_add,Nat.add_zero]
 | succ a ih =>
  intro j b
  rw [show a + 1 + b = (a + b) + 1 by omega,sm,sm,ih (j + 1) b,Cx.add_assoc,show j + 1 + a = j + (a + 1) by omega]
theorem sm_last (f:Nat -> Cx) (j d:Nat):sm f j (d + 1) = (sm f j d).add (f (j + d)):=by
 rw [sm_split f d j 1,sm,sm,Cx.add_zero]
theorem sm_add (f g:Nat -> Cx):∀ (d j:Nat),sm (fun i=>(f i).add (g i)) j d = (sm f j d).add (sm g j d):=by
 intro d
 induction d with
 | zero=>intro j; rw [sm,sm,sm,Cx.zero_add]
 | succ d ih =>
  intro j
  rw [sm,sm,sm,ih (j + 1)]
  generalize sm f (j + 1) d = u
  generalize sm g (j + 1) d = v
  apply Cx.ext <;> simp only [Cx.add] <;> grind
theorem sm_mul (c:Cx) (f:Nat -> Cx):∀ (d j:Nat),sm (fun i=>c.mul (f i)) j d = c.mul (sm f j d):=by
 intro d
 induction d with
 | zero=>intro j; rw [sm,sm,Cx.mul_zero]
 | succ d ih=>intro j; rw [sm,sm,ih (j + 1),Cx.mul_add]
theorem sm_subc (c:Cx) (f g:Nat -> Cx):∀ (d j:Nat),sm (fun i=>(f i).sub (c.mul (g i))) j d = (sm f j d).sub (c.mul (sm g j d)):=by
 intro d
 induction d with
 | zero=>intro j; rw [sm,sm,sm,Cx.mul_zero]; apply Cx.ext <;> simp only [Cx.sub,Cx.zero] <;> grind
 | succ d ih =>
  intro j
  rw [sm,sm,sm,ih (j + 1)]
  generalize sm f (j + 1) d = u
  generalize sm g (j + 1) d = v
  apply Cx.ext <;> simp only [Cx.sub,Cx.add,Cx.mul] <;> grind
theorem sm_swap (f:Nat -> Nat -> Cx) (m k:Nat):∀ (d j:Nat),sm (fun i=>sm (fun l=>f i l) k m) j d = sm (fun l=>sm (fun i=>f i l) j d) k m:=by
 intro d
 induction d with
 | zero =>
  intro j
  rw [sm]
  exact (sm_zero m k fun _ _ _=>rfl).symm
 | succ d ih =>
  intro j
  rw [sm,ih (j + 1),<- sm_add]
  rfl
theorem Cx.div_mul' (x:Cx) {y:Cx} (h:y ≠ .zero):(x.div y).mul y = x:=Cx.div_mul x h
theorem clear_row {F:Nat -> Nat -> Cx} {n c:Nat} (i j:Nat) (h:i <= c):clearF F c c n i j = F i j:=by
 unfold clearF clearP
 rw [if_neg oM]
theorem clear_low {F:Nat -> Nat -> Cx} {n c:Nat} (i j:Nat) (h:c < i) (hi:i < n) (hj:c < j):clearF F c c n i j = (F i j).sub (((F i c).div (F c c)).mul (F c j)):=by
 unfold clearF clearP
 rw [if_pos oM]
end Go.Proofs.YtffegeaflohfhaaGreatDoor
