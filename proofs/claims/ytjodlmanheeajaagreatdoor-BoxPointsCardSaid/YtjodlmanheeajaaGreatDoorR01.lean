import Derived.Below
set_option linter.unusedVariables false
set_option linter.unusedSimpArgs false
set_option maxRecDepth 100000
set_option maxHeartbeats 8000000
namespace Go.Proofs.YtjodlmanheeajaaGreatDoor
theorem oM {P:Prop} (h:P:=by omega):P:=h
theorem sO {P:Prop} (h:P:=by simp; omega):P:=h
theorem sP {P:Prop} (h:P:=by simp):P:=h
theorem dK {P:Prop} (h:P:=by decide +kernel):P:=h
theorem dE {P:Prop} (h:P:=by decide):P:=h
theorem lR {n:Nat}:n <= n:=Nat.le_refl n
theorem lL {a b c:Nat} (h:a < b) (k:b <= c):a < c:=Nat.lt_of_lt_of_le h k
theorem zA (n:Nat):0 + n = n:=Nat.zero_add n
def vs (f:Nat -> Nat):Nat -> Nat
 | 0=>0
 | n + 1=>vs f n + f n * 4294967296 ^ n
def Wd (f:Nat -> Nat) (n:Nat):Prop:=∀ j,j < n -> f j < 4294967296
def upd (f:Nat -> Nat) (i x:Nat):Nat -> Nat:=fun j=>if j = i then x else f j
theorem upd_same (f:Nat -> Nat) (i x:Nat):upd f i x i = x:=by simp [upd]
theorem upd_other (f:Nat -> Nat) {i j:Nat} (x:Nat) (h:j ≠ i):upd f i x j = f j:=by simp [upd,h]
theorem vs_zero (f:Nat -> Nat):vs f 0 = 0:=rfl
theorem vs_succ (f:Nat -> Nat) (n:Nat):vs f (n + 1) = vs f n + f n * 4294967296 ^ n:=rfl
theorem Wd.mono {f:Nat -> Nat} {m n:Nat} (h:Wd f n) (hm:m <= n):Wd f m:=fun j hj=>h j oM
theorem vs_congr {f g:Nat -> Nat}:∀ {n:Nat},(∀ j,j < n -> f j = g j) -> vs f n = vs g n
 | 0,_=>rfl
 | n + 1,h=>by rw [vs_succ,vs_succ,vs_congr (n:=n) (fun j hj=>h j oM),h n oM]
theorem vs_upd_ge (f:Nat -> Nat) {i n:Nat} (x:Nat) (h:n <= i):vs (upd f i x) n = vs f n :=
 vs_congr fun j hj=>upd_other f x oM
theorem vs_lt {f:Nat -> Nat}:∀ {n:Nat},Wd f n -> vs f n < 4294967296 ^ n
 | 0,_=>by simp [vs_zero]
 | n + 1,h=>by
  have h1:=vs_lt (n:=n) (h.mono oM)
  have h2:=h n oM
  rw [vs_succ,Nat.pow_succ]
  generalize 4294967296 ^ n = p at *
  have:f n * p <= 4294967295 * p:=Nat.mul_le_mul_right _ oM
  omega
theorem vs_add (f:Nat -> Nat) (m:Nat):∀ n,vs f (m + n) = vs f m + 4294967296 ^ m * vs (fun j=>f (m + j)) n
 | 0=>by simp [vs_zero]
 | n + 1=>by
  rw [<- Nat.add_assoc,vs_succ,vs_add f m n,vs_succ,Nat.mul_add,Nat.pow_add,Nat.add_assoc]
  congr 2
  rw [Nat.mul_comm (f (m + n)),Nat.mul_comm (f (m + n)),Nat.mul_assoc]
theorem vs_top {f:Nat -> Nat} {n:Nat} (hn:0 < n) (ht:f (n - 1) ≠ 0):4294967296 ^ (n - 1) <= vs f n:=by
 obtain ⟨m,rfl⟩:∃ m,n = m + 1:=⟨n - 1,oM⟩
 rw [vs_succ,Nat.add_sub_cancel]
 rw [Nat.add_sub_cancel] at ht
 have:1 * 4294967296 ^ m <= f m * 4294967296 ^ m:=Nat.mul_le_mul_right _ oM
 omega
theorem vs_zeros {f:Nat -> Nat} {n:Nat} (h:∀ j,j < n -> f j = 0):vs f n = 0:=by
 rw [vs_congr (g:=fun _=>0) h]
 induction n with
 | zero=>rfl
 | succ n ih=>rw [vs_succ,ih (fun j hj=>h j oM),Nat.zero_mul]
theorem vs_drop {f:Nat -> Nat} {m n:Nat} (hm:m <= n) (h:∀ j,m <= j -> j < n -> f j = 0):vs f n = vs f m:=by
 obtain ⟨k,rfl⟩:∃ k,n = m + k:=⟨n - m,oM⟩
 rw [vs_add,vs_zeros (fun j hj=>h (m + j) oM oM)]
 simp
theorem vs_one (f:Nat -> Nat):vs f 1 = f 0:=by simp [vs]
theorem vs_two (f:Nat -> Nat):vs f 2 = f 0 + f 1 * 4294967296:=by simp [vs]
theorem vs_lt_of {f g:Nat -> Nat} {n i:Nat} (hf:Wd f n) (hi:i < n) (hlt:f i < g i) (he:∀ j,i < j -> j < n -> f j = g j):vs f n < vs g n:=by
 obtain ⟨k,rfl⟩:∃ k,n = (i + 1) + k:=⟨n - (i + 1),oM⟩
 rw [vs_add f (i + 1) k,vs_add g (i + 1) k,vs_congr (f:=fun j=>f (i + 1 + j)) (g:=fun j=>g (i + 1 + j)) (fun j hj=>he _ oM oM),vs_succ f i,vs_succ g i]
 have h1:=vs_lt (n:=i) (hf.mono oM)
 have h2:(f i + 1) * 4294967296 ^ i <= g i * 4294967296 ^ i:=Nat.mul_le_mul_right _ hlt
 rw [Nat.add_mul,Nat.one_mul] at h2
 omega
theorem vs_inj {f g:Nat -> Nat} {n:Nat} (hf:Wd f n) (hg:Wd g n) (h:vs f n = vs g n):∀ j,j < n -> f j = g j:=by
 induction n with
 | zero=>intro j hj; omega
 | succ n ih =>
  have e:f n = g n:=by
   rcases Nat.lt_trichotomy (f n) (g n) with h1 | h1 | h1
   ·have:=vs_lt_of hf (Nat.lt_succ_self n) h1 (fun j _ _=>oM); omega
   ·exact h1
   ·have:=vs_lt_of hg (Nat.lt_succ_self n) h1 (fun j _ _=>oM); omega
  rw [vs_succ,vs_succ,e] at h
  intro j hj
  by_cases hjn:j = n
  ·subst hjn; exact e
  ·exact ih (hf.mono oM) (hg.mono oM) oM j oM
def Nm (f:Nat -> Nat) (n:Nat):Prop:=0 < n -> f (n - 1) ≠ 0
theorem pow_mono {m n:Nat} (h:m <= n):4294967296 ^ m <= 4294967296 ^ n:=Nat.pow_le_pow_right oM h
def dg (x j:Nat):Nat:=x / 4294967296 ^ j % 4294967296
theorem dg_lt (x j:Nat):dg x j < 4294967296:=Nat.mod_lt _ oM
theorem Wd_dg (x n:Nat):Wd (dg x) n:=fun j _=>dg_lt x j
theorem vs_dg (x:Nat):∀ n,vs (dg x) n = x % 4294967296 ^ n
 | 0=>by simp [vs_zero,Nat.mod_one]
 | n + 1=>by
  rw [vs_succ,vs_dg x n,Nat.pow_succ,Nat.mod_mul,dg,Nat.mul_comm]
theorem dg_vs {f:Nat -> Nat} {n:Nat} (hf:Wd f n):∀ j,j < n -> f j = dg (vs f n) j :=
 vs_inj hf (Wd_dg _ _) (by rw [vs_dg,Nat.mod_eq_of_lt (vs_lt hf)])
def wl (x:Nat):Nat:=if h:x = 0 then 0 else wl (x / 4294967296) + 1
decreasing_by omega
theorem wl_zero:wl 0 = 0:=by rw [wl]; simp
theorem wl_pos {x:Nat} (h:x ≠ 0):wl x = wl (x / 4294967296) + 1:=by rw [wl,dif_neg h]
theorem wl_eq_zero {x:Nat}:wl x = 0 ↔ x = 0:=by
 constructor
 ·intro h
  rcases Nat.eq_zero_or_pos x with h0 | h0
  ·exact h0
  ·rw [wl_pos oM] at h; omega
 ·rintro rfl; exact wl_zero
theorem lt_wl (x:Nat):x < 4294967296 ^ wl x:=by
 induction x using Nat.strongRecOn with
 | _ x ih =>
  rcases Nat.eq_zero_or_pos x with h0 | h0
  ·subst h0; simp [wl_zero]
  ·rw [wl_pos oM,Nat.pow_succ]
   have:=ih (x / 4294967296) oM
   generalize 4294967296 ^ wl (x / 4294967296) = p at *
   omega
theorem wl_le_of {x n:Nat} (h:x < 4294967296 ^ n):wl x <= n:=by
 induction n generalizing x with
 | zero=>simp at h; subst h; rw [wl_zero]; omega
 | succ n ih =>
  rcases Nat.eq_zero_or_pos x with h0 | h0
  ·subst h0; rw [wl_zero]; omega
  ·rw [wl_pos oM]
   have:=ih (x:=x / 4294967296) (by rw [Nat.pow_succ] at h; generalize 4294967296 ^ n = p at *; omega)
   omega
theorem wl_mono {x y:Nat} (h:x <= y):wl x <= wl y:=wl_le_of (Nat.lt_of_le_of_lt h (lt_wl y))
theorem wl_le_iff {x n:Nat}:wl x <= n ↔ x < 4294967296 ^ n :=
 ⟨fun h=>lL (lt_wl x) (pow_mono h),wl_le_of⟩
theorem vs_dg_wl (x:Nat):vs (dg x) (wl x) = x:=by rw [vs_dg,Nat.mod_eq_of_lt (lt_wl x)]
theorem pow_le_of_wl {x:Nat} (h:0 < wl x):4294967296 ^ (wl x - 1) <= x:=by
 rcases Nat.lt_or_ge x (4294967296 ^ (wl x - 1)) with h1 | h1
 ·have:=wl_le_of h1; omega
 ·exact h1
theorem top_dg {x:Nat} (h:0 < wl x):dg x (wl x - 1) ≠ 0:=by
 have h1:=pow_le_of_wl h
 have h2:=lt_wl x
 obtain ⟨m,hm⟩:∃ m,wl x = m + 1:=⟨wl x - 1,oM⟩
 rw [hm] at h1 h2 ⊢
 simp only [Nat.add_sub_cancel] at h1 ⊢
 rw [Nat.pow_succ] at h2
 unfold dg
 have hp:0 < 4294967296 ^ m:=Nat.pow_pos oM
 have h3:1 <= x / 4294967296 ^ m:=(Nat.le_div_iff_mul_le hp).2 oM
 have h4:x / 4294967296 ^ m < 4294967296:=Nat.div_lt_of_lt_mul h2
 omega
theorem wl_eq {f:Nat -> Nat} {n:Nat} (hf:Wd f n) (hm:Nm f n):wl (vs f n) = n:=by
 have h1:=wl_le_of (vs_lt hf)
 rcases Nat.eq_zero_or_pos n with h0 | h0
 ·omega
 ·have h2:=vs_top h0 (hm h0)
  rcases Nat.lt_or_ge (wl (vs f n)) n with h3 | h3
  ·have h4:=lt_wl (vs f n)
   have h5:=pow_mono (m:=wl (vs f n)) (n:=n - 1) oM
   omega
  ·omega
def tl (f:Nat -> Nat):Nat -> Nat
 | 0=>0
 | n + 1=>if f n = 0 then tl f n else n + 1
theorem tl_le (f:Nat -> Nat):∀ n,tl f n <= n
 | 0=>Nat.le_refl 0
 | n + 1=>by
  have:=tl_le f n
  rw [tl]; split <;> omega
theorem vs_tl (f:Nat -> Nat):∀ n,vs f (tl f n) = vs f n
 | 0=>rfl
 | n + 1=>by
  rw [tl]
  split
  ·rename_i h
   rw [vs_succ,h,vs_tl f n]; omega
  ·rfl
theorem tl_nm (f:Nat -> Nat):∀ n,Nm f (tl f n)
 | 0=>fun h=>absurd h (by simp [tl])
 | n + 1=>by
  rw [tl]
  split
  ·exact tl_nm f n
  ·rename_i h
   intro _
   simpa using h
theorem tl_eq {f:Nat -> Nat} {n:Nat} (hf:Wd f n):tl f n = wl (vs f n):=by
 rw [<- vs_tl f n]
 exact (wl_eq (hf.mono (tl_le f n)) (tl_nm f n)).symm
theorem wl_add (x y:Nat):wl (x + y) <= max (wl x) (wl y) + 1:=by
 refine wl_le_of ?_
 have h1:=lL (lt_wl x) (pow_mono (Nat.le_max_left (wl x) (wl y)))
 have h2:=lL (lt_wl y) (pow_mono (Nat.le_max_right (wl x) (wl y)))
 rw [Nat.pow_succ]
 generalize 4294967296 ^ max (wl x) (wl y) = p at *
 omega
theorem wl_mul (x y:Nat):wl (x * y) <= wl x + wl y:=by
 refine wl_le_of ?_
 rw [Nat.pow_add]
 exact Nat.mul_lt_mul'' (lt_wl x) (lt_wl y)
theorem wl_one:wl 1 = 1:=by rw [wl_pos oM,show 1 / 4294967296 = 0 from rfl,wl_zero]
theorem wl_le_two {x:Nat} (h:x < 18446744073709551616):wl x <= 2:=wl_le_of (by simpa using h)
theorem lt_of_wl_two {x:Nat} (h:wl x <= 2):x < 18446744073709551616:=by simpa using wl_le_iff.1 h
theorem dg_zero (x:Nat):dg x 0 = x % 4294967296:=by simp [dg]
theorem dg_one (x:Nat):dg x 1 = x / 4294967296 % 4294967296:=by simp [dg]
theorem pow32 (r:Nat) (h:r <= 32):2 ^ r * 2 ^ (32 - r) = 4294967296:=by
 rw [<- Nat.pow_add,show r + (32 - r) = 32 by omega]
theorem pow_words (n:Nat):2 ^ n = 4294967296 ^ (n / 32) * 2 ^ (n % 32):=by
 rw [show (4294967296:Nat) = 2 ^ 32 from rfl,<- Nat.pow_mul,<- Nat.pow_add,Nat.div_add_mod]
theorem dg_shr (x r j:Nat) (h:r < 32):dg (x / 2 ^ r) j = dg x j / 2 ^ r + dg x (j + 1) * 2 ^ (32 - r) % 4294967296:=by
 have hp:=pow32 r oM
 have h1:0 < 2 ^ r:=Nat.pow_pos oM
 have h2:0 < 2 ^ (32 - r):=Nat.pow_pos oM
 unfold dg
 rw [Nat.div_div_eq_div_mul,Nat.mul_comm (2 ^ r),<- Nat.div_div_eq_div_mul,Nat.pow_succ,<- Nat.div_div_eq_div_mul]
 generalize x / 4294967296 ^ j = y
 generalize 2 ^ r = p at *
 generalize 2 ^ (32 - r) = q at *
 rw [<- hp]
 have e1:y / (p * q) % (p * q) * q % (p * q) = y / (p * q) % p * q:=by
  rw [Nat.mul_mod_mul_right,Nat.mod_mul_right_mod]
 rw [e1]
 have e2:y / p % (p * q) = y % (p * (p * q)) / p:=by rw [Nat.mod_mul_right_div_self]
 have e3:y % (p * (p * q)) = y % (p * q) + (p * q) * (y / (p * q) % p):=by rw [Nat.mul_comm p (p * q),Nat.mod_mul]
 rw [e2,e3,Nat.mul_assoc,Nat.add_mul_div_left _ _ h1,Nat.mul_comm q]
theorem shl_step (w c r:Nat) (hr:r < 32):w * 2 ^ r % 4294967296 + c + w / 2 ^ (32 - r) * 4294967296 = w * 2 ^ r + c:=by
 have hp:=pow32 r oM
 have h1:0 < 2 ^ r:=Nat.pow_pos oM
 have h2:0 < 2 ^ (32 - r):=Nat.pow_pos oM
 generalize 2 ^ r = p at *
 generalize 2 ^ (32 - r) = q at *
 rw [<- hp]
 have e1:w * p % (p * q) = w % q * p:=by rw [Nat.mul_comm p q,Nat.mul_mod_mul_right]
 have e2:=Nat.div_add_mod w q
 rw [e1]
 generalize w / q = a at *
 generalize w % q = b at *
 subst e2
 grind
theorem shl_carry (w r:Nat) (hr:r < 32) (hw:w < 4294967296):w / 2 ^ (32 - r) < 2 ^ r:=by
 have hp:=pow32 r oM
 exact Nat.div_lt_of_lt_mul (by rw [Nat.mul_comm,hp]; exact hw)
theorem shift_step {a c s k t w P p:Nat} (h1:a + c * P = t * p) (h2:s + k * 4294967296 = w * p + c):a + s * P + k * (P * 4294967296) = (t + w * P) * p:=by
 grind
theorem vs_low_zero {f:Nat -> Nat} {q n:Nat} (h:∀ j,j < q -> f j = 0):vs f (q + n) = 4294967296 ^ q * vs (fun j=>f (q + j)) n:=by
 rw [vs_add,vs_zeros h,Nat.zero_add]
theorem leap_core {x y u0 v0 u1 v1 X Y:Nat} (h1:X + y * v0 = x * u0) (h2:Y + x * u1 = y * v1) (hd:u0 * v1 = v0 * u1 + 1) :
  X * v1 + Y * v0 = x /\ X * u1 + Y * u0 = y:=by
 constructor
 ·have e1:X * v1 + y * v0 * v1 = x * u0 * v1:=by rw [<- Nat.add_mul,h1]
  have e2:Y * v0 + x * u1 * v0 = y * v1 * v0:=by rw [<- Nat.add_mul,h2]
  have e3:x * u0 * v1 = x * (v0 * u1) + x:=by rw [Nat.mul_assoc,hd,Nat.mul_add,Nat.mul_one]
  have e4:y * v0 * v1 = y * v1 * v0:=by grind
  have e5:x * u1 * v0 = x * (v0 * u1):=by grind
  omega
 ·have e1:X * u1 + y * v0 * u1 = x * u0 * u1:=by rw [<- Nat.add_mul,h1]
  have e2:Y * u0 + x * u1 * u0 = y * v1 * u0:=by rw [<- Nat.add_mul,h2]
  have e3:y * v1 * u0 = y * (v0 * u1) + y:=by rw [Nat.mul_assoc,Nat.mul_comm v1,hd,Nat.mul_add,Nat.mul_one]
  have e4:y * v0 * u1 = y * (v0 * u1):=by grind
  have e5:x * u0 * u1 = x * u1 * u0:=by grind
  omega
theorem leap_core2 {x y u0 v0 u1 v1 X Y:Nat} (h1:X + x * u0 = y * v0) (h2:Y + y * v1 = x * u1) (hd:v0 * u1 = u0 * v1 + 1) :
  X * v1 + Y * v0 = x /\ X * u1 + Y * u0 = y:=by
 constructor
 ·have e1:X * v1 + x * u0 * v1 = y * v0 * v1:=by rw [<- Nat.add_mul,h1]
  have e2:Y * v0 + y * v1 * v0 = x * u1 * v0:=by rw [<- Nat.add_mul,h2]
  have e3:x * u1 * v0 = x * (u0 * v1) + x:=by rw [Nat.mul_assoc,Nat.mul_comm u1,hd,Nat.mul_add,Nat.mul_one]
  have e4:y * v0 * v1 = y * v1 * v0:=by grind
  have e5:x * u0 * v1 = x * (u0 * v1):=by grind
  omega
 ·have e1:X * u1 + x * u0 * u1 = y * v0 * u1:=by rw [<- Nat.add_mul,h1]
  have e2:Y * u0 + y * v1 * u0 = x * u1 * u0:=by rw [<- Nat.add_mul,h2]
  have e3:y * v0 * u1 = y * (u0 * v1) + y:=by rw [Nat.mul_assoc,hd,Nat.mul_add,Nat.mul_one]
  have e4:y * v1 * u0 = y * (u0 * v1):=by grind
  have e5:x * u0 * u1 = x * u1 * u0:=by grind
  omega
theorem gcd_leap {x y u0 v0 u1 v1 X Y:Nat} (h1:X * v1 + Y * v0 = x) (h2:X * u1 + Y * u0 = y) (h3:∀ d,d ∣ x -> d ∣ y -> d ∣ X /\ d ∣ Y):Nat.gcd X Y = Nat.gcd x y:=by
 refine Nat.dvd_antisymm (Nat.dvd_gcd ?_ ?_) (Nat.dvd_gcd ?_ ?_)
 ·rw [<- h1]; exact Nat.dvd_add (Nat.dvd_mul_right_of_dvd (Nat.gcd_dvd_left _ _) _) (Nat.dvd_mul_right_of_dvd (Nat.gcd_dvd_right _ _) _)
 ·rw [<- h2]; exact Nat.dvd_add (Nat.dvd_mul_right_of_dvd (Nat.gcd_dvd_left _ _) _) (Nat.dvd_mul_right_of_dvd (Nat.gcd_dvd_right _ _) _)
 ·exact (h3 _ (Nat.gcd_dvd_left _ _) (Nat.gcd_dvd_right _ _)).1
 ·exact (h3 _ (Nat.gcd_dvd_left _ _) (Nat.gcd_dvd_right _ _)).2
theorem dvd_of_eq_add {d X a b:Nat} (h:X + a = b) (ha:d ∣ a) (hb:d ∣ b):d ∣ X:=by
 have:X = b - a:=oM
 rw [this]
 exact Nat.dvd_sub hb ha
def Leaps (x y X Y:Nat):Prop:=Y <= X /\ X + Y <= x /\ Nat.gcd X Y = Nat.gcd x y
theorem leaps_of {x y u0 v0 u1 v1 X Y:Nat} (h1:X * v1 + Y * v0 = x) (h2:X * u1 + Y * u0 = y) (h3:∀ d,d ∣ x -> d ∣ y -> d ∣ X /\ d ∣ Y) (hle:Y <= X) (hv0:1 <= v0) (hv1:1 <= v1):Leaps x y X Y:=by
 refine ⟨hle,?_,gcd_leap h1 h2 h3⟩
 have a:=Nat.mul_le_mul_left X hv1
 have b:=Nat.mul_le_mul_left Y hv0
 omega
theorem leap_true {x y k u0 v0 u1 v1 p c:Nat} (hk:0 < k) (hv0:v0 ≠ 0) (hu1:u1 <= v1) (hc:v1 <= c) (hp:c + (v0 + v1) <= p)
  (e1:p + v0 * (y / k) = u0 * (x / k)) (e2:c + u1 * (x / k) = v1 * (y / k)) (hd:u0 * v1 = v0 * u1 + 1) :
  y * v0 <= x * u0 /\ x * u1 <= y * v1 /\ Leaps x y (x * u0 - y * v0) (y * v1 - x * u1):=by
 have hx:=Nat.div_add_mod x k
 have hy:=Nat.div_add_mod y k
 have hr:=Nat.mod_lt x hk
 have hs:=Nat.mod_lt y hk
 have hv1:1 <= v1:=by
  rcases Nat.eq_zero_or_pos v1 with h | h
  ·subst h; simp at hd
  ·exact h
 generalize x / k = A at *
 generalize y / k = B at *
 generalize x % k = r at *
 generalize y % k = s at *
 have f1:p * k + v0 * B * k = u0 * A * k:=by rw [<- Nat.add_mul,e1]
 have f2:c * k + u1 * A * k = v1 * B * k:=by rw [<- Nat.add_mul,e2]
 have g1:x * u0 = u0 * A * k + r * u0:=by rw [<- hx]; grind
 have g2:y * v0 = v0 * B * k + s * v0:=by rw [<- hy]; grind
 have g3:x * u1 = u1 * A * k + r * u1:=by rw [<- hx]; grind
 have g4:y * v1 = v1 * B * k + s * v1:=by rw [<- hy]; grind
 have k1:s * v0 <= k * v0:=Nat.mul_le_mul_right _ oM
 have k2:s * v1 <= k * v1:=Nat.mul_le_mul_right _ oM
 have k3:r * u1 <= k * u1:=Nat.mul_le_mul_right _ oM
 have k4:k * u1 <= k * v1:=Nat.mul_le_mul_left _ hu1
 have k5:v1 * k <= c * k:=Nat.mul_le_mul_right _ hc
 have k6:(c + (v0 + v1)) * k <= p * k:=Nat.mul_le_mul_right _ hp
 rw [Nat.add_mul,Nat.add_mul] at k6
 rw [Nat.mul_comm k v0] at k1
 rw [Nat.mul_comm k v1] at k2 k4
 have h1:y * v0 <= x * u0:=oM
 have h2:x * u1 <= y * v1:=oM
 refine ⟨h1,h2,?_⟩
 have hX:(x * u0 - y * v0) + y * v0 = x * u0:=oM
 have hY:(y * v1 - x * u1) + x * u1 = y * v1:=oM
 have hle:y * v1 - x * u1 <= x * u0 - y * v0:=oM
 obtain ⟨i1,i2⟩:=leap_core hX hY hd
 exact leaps_of i1 i2 (fun d dx dy=>⟨dvd_of_eq_add hX (Nat.dvd_mul_right_of_dvd dy _) (Nat.dvd_mul_right_of_dvd dx _),dvd_of_eq_add hY (Nat.dvd_mul_right_of_dvd dx _) (Nat.dvd_mul_right_of_dvd dy _)⟩) hle oM hv1
theorem leap_false {x y k u0 v0 u1 v1 p c:Nat} (hk:0 < k) (hv0:v0 ≠ 0) (hu0:u0 <= v0) (hu1:u1 <= v1) (hc:v1 <= c) (hp:c + (v0 + v1) <= p)
  (e1:p + u0 * (x / k) = v0 * (y / k)) (e2:c + v1 * (y / k) = u1 * (x / k)) (hd:v0 * u1 = u0 * v1 + 1) :
  x * u0 <= y * v0 /\ y * v1 <= x * u1 /\ Leaps x y (y * v0 - x * u0) (x * u1 - y * v1):=by
 have hx:=Nat.div_add_mod x k
 have hy:=Nat.div_add_mod y k
 have hr:=Nat.mod_lt x hk
 have hs:=Nat.mod_lt y hk
 have hv1:1 <= v1:=by
  rcases Nat.eq_zero_or_pos u1 with h | h
  ·subst h; simp at hd
  ·omega
 generalize x / k = A at *
 generalize y / k = B at *
 generalize x % k = r at *
 generalize y % k = s at *
 have f1:p * k + u0 * A * k = v0 * B * k:=by rw [<- Nat.add_mul,e1]
 have f2:c * k + v1 * B * k = u1 * A * k:=by rw [<- Nat.add_mul,e2]
 have g1:x * u0 = u0 * A * k + r * u0:=by rw [<- hx]; grind
 have g2:y * v0 = v0 * B * k + s * v0:=by rw [<- hy]; grind
 have g3:x * u1 = u1 * A * k + r * u1:=by rw [<- hx]; grind
 have g4:y * v1 = v1 * B * k + s * v1:=by rw [<- hy]; grind
 have k1:r * u0 <= k * u0:=Nat.mul_le_mul_right _ oM
 have k2:s * v1 <= k * v1:=Nat.mul_le_mul_right _ oM
 have k3:r * u1 <= k * u1:=Nat.mul_le_mul_right _ oM
 have k4:k * u1 <= k * v1:=Nat.mul_le_mul_left _ hu1
 have k7:k * u0 <= k * v0:=Nat.mul_le_mul_left _ hu0
 have k5:v1 * k <= c * k:=Nat.mul_le_mul_right _ hc
 have k6:(c + (v0 + v1)) * k <= p * k:=Nat.mul_le_mul_right _ hp
 rw [Nat.add_mul,Nat.add_mul] at k6
 rw [Nat.mul_comm k v0] at k7
 rw [Nat.mul_comm k v1] at k2 k4
 have h1:x * u0 <= y * v0:=oM
 have h2:y * v1 <= x * u1:=oM
 refine ⟨h1,h2,?_⟩
 have hX:(y * v0 - x * u0) + x * u0 = y * v0:=oM
 have hY:(x * u1 - y * v1) + y * v1 = x * u1:=oM
 have hle:x * u1 - y * v1 <= y * v0 - x * u0:=oM
 obtain ⟨i1,i2⟩:=leap_core2 hX hY hd
 exact leaps_of i1 i2 (fun d dx dy=>⟨dvd_of_eq_add hX (Nat.dvd_mul_right_of_dvd dx _) (Nat.dvd_mul_right_of_dvd dy _),dvd_of_eq_add hY (Nat.dvd_mul_right_of_dvd dy _) (Nat.dvd_mul_right_of_dvd dx _)⟩) hle oM hv1
structure Cx where
 re:Rat
 im:Rat
deriving DecidableEq
theorem Cx.ext {x y:Cx} (h:x.re = y.re) (k:x.im = y.im):x = y:=by
 cases x; cases y; cases h; cases k; rfl
def Low (x:Cx) (a b:Int) (d:Nat):Prop :=
 0 < d /\ Nat.gcd (Nat.gcd d a.natAbs) b.natAbs = 1 /\ x.re * (d:Rat) = (a:Rat) /\ x.im * (d:Rat) = (b:Rat)
theorem natCast_ne {d:Nat} (h:0 < d):(d:Rat) ≠ 0:=by
 have:(d:Rat) ≠ ((0:Nat):Rat):=fun e=>by
  have:=Rat.natCast_inj.1 e
  omega
 simpa using this
theorem cross {p:Rat} {a a':Int} {d d':Nat} (h:p * (d:Rat) = (a:Rat)) (h':p * (d':Rat) = (a':Rat)):a * (d':Int) = a' * (d:Int):=by
 have:((a * (d':Int):Int):Rat) = ((a' * (d:Int):Int):Rat):=by
  rw [Rat.intCast_mul,Rat.intCast_mul,Rat.intCast_natCast,Rat.intCast_natCast]
  grind
 exact Rat.intCast_inj.1 this
theorem Low.den_dvd {x:Cx} {a b a' b':Int} {d d':Nat} (h:Low x a b d) (h':Low x a' b' d'):d ∣ d':=by
 obtain ⟨hd,hg,h1,h2⟩:=h
 obtain ⟨hd',hg',h1',h2'⟩:=h'
 have e1:=congrArg Int.natAbs (cross h1 h1')
 have e2:=congrArg Int.natAbs (cross h2 h2')
 rw [Int.natAbs_mul,Int.natAbs_mul,Int.natAbs_natCast,Int.natAbs_natCast] at e1 e2
 -- d divides d' d,d' |a| and d' |b|,so d' times their greatest common divisor
 have k:d ∣ Nat.gcd (Nat.gcd (d' * d) (d' * a.natAbs)) (d' * b.natAbs):=by
  refine Nat.dvd_gcd (Nat.dvd_gcd ⟨d',Nat.mul_comm _ _⟩ ⟨a'.natAbs,?_⟩) ⟨b'.natAbs,?_⟩
  ·rw [Nat.mul_comm d',e1,Nat.mul_comm]
  ·rw [Nat.mul_comm d',e2,Nat.mul_comm]
 rw [Nat.gcd_mul_left,Nat.gcd_mul_left,hg,Nat.mul_one] at k
 exact k
theorem Low.uniq {x:Cx} {a b a' b':Int} {d d':Nat} (h:Low x a b d) (h':Low x a' b' d'):a = a' /\ b = b' /\ d = d':=by
 have hdd:d = d':=Nat.dvd_antisymm (h.den_dvd h') (h'.den_dvd h)
 subst hdd
 obtain ⟨hd,hg,h1,h2⟩:=h
 obtain ⟨hd',hg',h1',h2'⟩:=h'
 exact ⟨Rat.intCast_inj.1 (h1.symm.trans h1'),Rat.intCast_inj.1 (h2.symm.trans h2'),rfl⟩
def gcd3 (a b:Int) (d:Nat):Nat:=Nat.gcd (Nat.gcd d a.natAbs) b.natAbs
theorem gcd3_pos {a b:Int} {d:Nat} (h:0 < d):0 < gcd3 a b d :=
 Nat.pos_of_ne_zero fun e=>by
  have:=Nat.gcd_eq_zero_iff.1 e
  have:=Nat.gcd_eq_zero_iff.1 this.1
  omega
theorem gcd3_dvd (a b:Int) (d:Nat):gcd3 a b d ∣ d /\ ((gcd3 a b d:Nat):Int) ∣ a /\ ((gcd3 a b d:Nat):Int) ∣ b:=by
 have h1:gcd3 a b d ∣ Nat.gcd d a.natAbs:=Nat.gcd_dvd_left _ _
 exact ⟨Nat.dvd_trans h1 (Nat.gcd_dvd_left _ _),Int.ofNat_dvd_left.2 (Nat.dvd_trans h1 (Nat.gcd_dvd_right _ _)),Int.ofNat_dvd_left.2 (Nat.gcd_dvd_right _ _)⟩
theorem Low.of {x:Cx} {a b:Int} {d:Nat} (hd:0 < d) (h1:x.re * (d:Rat) = (a:Rat)) (h2:x.im * (d:Rat) = (b:Rat)) :
  Low x (a / (gcd3 a b d:Nat)) (b / (gcd3 a b d:Nat)) (d / gcd3 a b d):=by
 have hg:=gcd3_pos (a:=a) (b:=b) hd
 obtain ⟨⟨k,hk⟩,⟨m,hm⟩,⟨n,hn⟩⟩:=gcd3_dvd a b d
 generalize hG:gcd3 a b d = g at *
 have e1:d / g = k:=by rw [hk]; exact Nat.mul_div_cancel_left _ hg
 have e2:a / (g:Int) = m:=by rw [hm]; exact Int.mul_ediv_cancel_left _ oM
 have e3:b / (g:Int) = n:=by rw [hn]; exact Int.mul_ediv_cancel_left _ oM
 rw [e1,e2,e3]
 have hk0:0 < k:=Nat.pos_of_ne_zero fun e=>by rw [e] at hk; omega
 refine ⟨hk0,?_,?_,?_⟩
 ·have:g * Nat.gcd (Nat.gcd k m.natAbs) n.natAbs = g * 1:=by
   rw [<- Nat.gcd_mul_left,<- Nat.gcd_mul_left,Nat.mul_one]
   have ea:g * m.natAbs = a.natAbs:=by rw [hm,Int.natAbs_mul,Int.natAbs_natCast]
   have eb:g * n.natAbs = b.natAbs:=by rw [hn,Int.natAbs_mul,Int.natAbs_natCast]
   rw [<- hk,ea,eb]; exact hG
  exact Nat.eq_of_mul_eq_mul_left hg this
 ·have hgr:=natCast_ne hg
  rw [hk,hm,Rat.natCast_mul,Rat.intCast_mul,Rat.intCast_natCast] at h1
  grind
 ·have hgr:=natCast_ne hg
  rw [hk,hn,Rat.natCast_mul,Rat.intCast_mul,Rat.intCast_natCast] at h2
  grind
theorem gcd_bound {a b:Int} {d g:Nat} (hg:g ∣ d) (hb:gcd3 a b d ∣ g):Nat.gcd (Nat.gcd g a.natAbs) b.natAbs = gcd3 a b d:=by
 apply Nat.dvd_antisymm
 ·have h1:Nat.gcd (Nat.gcd g a.natAbs) b.natAbs ∣ Nat.gcd g a.natAbs:=Nat.gcd_dvd_left _ _
  exact Nat.dvd_gcd (Nat.dvd_gcd (Nat.dvd_trans (Nat.dvd_trans h1 (Nat.gcd_dvd_left _ _)) hg) (Nat.dvd_trans h1 (Nat.gcd_dvd_right _ _))) (Nat.gcd_dvd_right _ _)
 ·have h1:gcd3 a b d ∣ Nat.gcd d a.natAbs:=Nat.gcd_dvd_left _ _
  exact Nat.dvd_gcd (Nat.dvd_gcd hb (Nat.dvd_trans h1 (Nat.gcd_dvd_right _ _))) (Nat.gcd_dvd_right _ _)
def Sz (x:Cx) (n:Nat):Prop:=∀ a b d,Low x a b d -> wl a.natAbs <= n /\ wl b.natAbs <= n /\ wl d <= n
theorem Sz.low {x:Cx} {a b:Int} {d n:Nat} (h:Low x a b d) (h1:wl a.natAbs <= n) (h2:wl b.natAbs <= n) (h3:wl d <= n):Sz x n:=fun a' b' d' h'=>by
 obtain ⟨rfl,rfl,rfl⟩:=h.uniq h'
 exact ⟨h1,h2,h3⟩
theorem natAbs_ediv_le (a:Int) (g:Nat):(a / (g:Int)).natAbs <= a.natAbs:=Int.natAbs_ediv_le_natAbs a g
theorem Sz.of {x:Cx} {a b:Int} {d n:Nat} (hd:0 < d) (h1:x.re * (d:Rat) = (a:Rat)) (h2:x.im * (d:Rat) = (b:Rat)) (s1:wl a.natAbs <= n) (s2:wl b.natAbs <= n) (s3:wl d <= n):Sz x n :=
 Sz.low (Low.of hd h1 h2) (Nat.le_trans (wl_mono (natAbs_ediv_le _ _)) s1) (Nat.le_trans (wl_mono (natAbs_ediv_le _ _)) s2) (Nat.le_trans (wl_mono (Nat.div_le_self _ _)) s3)
def dn (d:Nat):Nat:=if d = 1 then 0 else d
def Cx.mul (x y:Cx):Cx:=⟨x.re * y.re - x.im * y.im,x.re * y.im + x.im * y.re⟩
def Cx.int (n:Int):Cx:=⟨n,0⟩
def Cx.zero:Cx:=⟨0,0⟩
def Cx.nrm (x:Cx):Rat:=x.re * x.re + x.im * x.im
def Cx.inv (y:Cx):Cx:=⟨y.re / y.nrm,-y.im / y.nrm⟩
def Cx.div (x y:Cx):Cx:=x.mul y.inv
section
variable {x y:Cx} {a b a' b':Int} {d d' n m:Nat}
theorem Low.pos (h:Low x a b d):0 < d:=h.1
theorem Low.int (n:Int):Low (.int n) n 0 1:=⟨oM,sP,by simp [Cx.int],by simp [Cx.int]⟩
theorem Low.zero:Low .zero 0 0 1:=⟨oM,sP,by simp [Cx.zero],by simp [Cx.zero]⟩
theorem mul_terms (h:Low x a b d) (h':Low y a' b' d') :
  (x.mul y).re * ((d * d':Nat):Rat) = ((a * a' - b * b':Int):Rat) /\ (x.mul y).im * ((d * d':Nat):Rat) = ((a * b' + b * a':Int):Rat):=by
 obtain ⟨hd,-,h1,h2⟩:=h
 obtain ⟨hd',-,h1',h2'⟩:=h'
 simp only [Cx.mul,Rat.natCast_mul,Rat.intCast_add,Rat.intCast_sub,Rat.intCast_mul]
 constructor <;> grind
theorem re_zero (h:Low x a b d):x.re = 0 ↔ a = 0:=by
 obtain ⟨hd,-,h1,h2⟩:=h
 have:=natCast_ne hd
 constructor
 ·intro e
  refine Rat.intCast_inj.1 ?_
  rw [<- h1,e]; simp
 ·intro e
  rw [e,Rat.intCast_zero] at h1
  grind
theorem im_zero (h:Low x a b d):x.im = 0 ↔ b = 0:=by
 obtain ⟨hd,-,h1,h2⟩:=h
 have:=natCast_ne hd
 constructor
 ·intro e
  refine Rat.intCast_inj.1 ?_
  rw [<- h2,e]; simp
 ·intro e
  rw [e,Rat.intCast_zero] at h2
  grind
theorem Low.clear (h:Low x a b d):x = .zero ↔ a = 0 /\ b = 0:=by
 rw [<- re_zero h,<- im_zero h]
 exact ⟨fun e=>by subst e; exact ⟨rfl,rfl⟩,fun ⟨h1,h2⟩=>Cx.ext h1 h2⟩
theorem wl_iadd (a b:Int):wl (a + b).natAbs <= max (wl a.natAbs) (wl b.natAbs) + 1 :=
 Nat.le_trans (wl_mono (Int.natAbs_add_le a b)) (wl_add _ _)
theorem wl_isub (a b:Int):wl (a - b).natAbs <= max (wl a.natAbs) (wl b.natAbs) + 1:=by
 have:=wl_iadd a (-b)
 rwa [Int.natAbs_neg] at this
theorem wl_imul (a b:Int):wl (a * b).natAbs <= wl a.natAbs + wl b.natAbs:=by
 rw [Int.natAbs_mul]; exact wl_mul _ _
theorem wl_inat (d:Nat):wl (d:Int).natAbs = wl d:=rfl
theorem Sz.int {k:Int} (h:wl k.natAbs <= n) (hn:1 <= n):Sz (.int k) n:=Sz.low (Low.int k) h (by simp [wl_zero]) (by rw [wl_one]; exact hn)
end
theorem sq_nn (r:Rat):0 <= r * r:=by
 rcases (Rat.le_total:0 <= r ∨ r <= 0) with h | h
 ·exact Rat.mul_nonneg h h
 ·have h':0 <= -r:=by grind
  have:=Rat.mul_nonneg h' h'
  have e:-r * -r = r * r:=by grind
  rwa [e] at this
theorem nrm_pos_ne {y:Cx} (h:y ≠ .zero):y.nrm ≠ 0:=by
 intro e
 apply h
 unfold Cx.nrm at e
 have h1:0 <= y.re * y.re:=sq_nn y.re
 have h2:0 <= y.im * y.im:=sq_nn y.im
 have e1:y.re * y.re = 0:=by grind
 have e2:y.im * y.im = 0:=by grind
 exact Cx.ext (by have:=Rat.mul_eq_zero.1 e1; simpa [Cx.zero] using this) (by have:=Rat.mul_eq_zero.1 e2; simpa [Cx.zero] using this)
theorem natAbs_cast (z:Int) (p:Bool) (hp:p = decide (z < 0)):((z.natAbs:Nat):Rat) = if p then -(z:Rat) else (z:Rat):=by
 subst hp
 rw [<- Rat.intCast_natCast]
 by_cases h:z < 0
 ·rw [decide_eq_true h,if_pos rfl,<- Rat.intCast_neg]; congr 1; omega
 ·rw [decide_eq_false h,if_neg sP]; congr 1; omega
theorem div_terms_r {x y:Cx} {a b a' b':Int} {d d':Nat} (hl:Low x a b d) (hl':Low y a' b' d') (h0:y ≠ .zero) (h1:y.im = 0) (p:Bool) (hp:p = decide (a' < 0)) :
  (x.div y).re * ((d * a'.natAbs:Nat):Rat) = (((if p then -a else a) * (d':Int):Int):Rat) /\ (x.div y).im * ((d * a'.natAbs:Nat):Rat) = (((if p then -b else b) * (d':Int):Int):Rat):=by
 have hr:y.re ≠ 0:=fun e=>h0 (Cx.ext (by simpa [Cx.zero] using e) (by simpa [Cx.zero] using h1))
 obtain ⟨-,-,e1,e2⟩:=hl
 obtain ⟨-,-,e1',e2'⟩:=hl'
 rw [Rat.natCast_mul,natAbs_cast a' p hp]
 have k1:(x.div y).re * y.re = x.re:=by
  simp only [Cx.div,Cx.mul,Cx.inv,Cx.nrm,h1]
  grind
 have k2:(x.div y).im * y.re = x.im:=by
  simp only [Cx.div,Cx.mul,Cx.inv,Cx.nrm,h1]
  grind
 cases p
 ·simp only [Bool.false_eq_true,if_false,Rat.intCast_mul,Rat.intCast_natCast]
  constructor <;> grind
 ·simp only [if_true,Rat.intCast_mul,Rat.intCast_natCast,Rat.intCast_neg]
  constructor <;> grind
theorem sq_pos {a b:Int} (h:¬ (a = 0 /\ b = 0)):0 < a * a + b * b:=by
 have h1:0 <= a * a:=by rw [<- Int.natAbs_mul_self]; exact Int.natCast_nonneg _
 have h2:0 <= b * b:=by rw [<- Int.natAbs_mul_self]; exact Int.natCast_nonneg _
 have h3:a * a = 0 -> a = 0:=fun e=>by simpa using Int.mul_eq_zero.1 e
 have h4:b * b = 0 -> b = 0:=fun e=>by simpa using Int.mul_eq_zero.1 e
 omega
theorem inv_terms {y:Cx} {a' b':Int} {d':Nat} (hl':Low y a' b' d') (h0:y ≠ .zero) :
  0 < (a' * a' + b' * b').natAbs /\ y.inv.re * (((a' * a' + b' * b').natAbs:Nat):Rat) = ((a' * (d':Int):Int):Rat) /\ y.inv.im * (((a' * a' + b' * b').natAbs:Nat):Rat) = ((-(b' * (d':Int)):Int):Rat):=by
 have hn:=nrm_pos_ne h0
 have hz:¬ (a' = 0 /\ b' = 0):=fun e=>h0 (hl'.clear.2 e)
 have hp:=sq_pos hz
 obtain ⟨-,-,e1',e2'⟩:=hl'
 have hc:(((a' * a' + b' * b').natAbs:Nat):Rat) = (a':Rat) * a' + (b':Rat) * b':=by
  rw [<- Rat.intCast_natCast,<- Rat.intCast_mul,<- Rat.intCast_mul,<- Rat.intCast_add]
  congr 1; omega
 rw [hc]
 refine ⟨oM,?_,?_⟩
 ·rw [Rat.intCast_mul,Rat.intCast_natCast]
  simp only [Cx.inv]
  unfold Cx.nrm at *
  grind
 ·rw [Rat.intCast_neg,Rat.intCast_mul,Rat.intCast_natCast]
  simp only [Cx.inv]
  unfold Cx.nrm at *
  grind
end Go.Proofs.YtjodlmanheeajaaGreatDoor
