import Derived.Test.YtffegeaflohfhaaGreatDoorS23
import Derived.Test.YtffegeaflohfhaaGreatDoorS28
import Derived.Test.YtffegeaflohfhaaGreatDoorT41
import Derived.Test.YtffegeaflohfhaaGreatDoorS43
import Derived.Test.YtffegeaflohfhaaGreatDoorS02
set_option linter.unusedVariables false
set_option linter.unusedSimpArgs false
set_option maxRecDepth 100000
set_option maxHeartbeats 8000000
namespace Go.Proofs.YtffegeaflohfhaaGreatDoor
open Go.RowKit
theorem pivF_congr' {F G:Nat -> Nat -> Cx} (c:Nat):∀ (d i:Nat),(∀ a,i <= a -> a < i + d -> F a c = G a c) -> pivF F c i d = pivF G c i d:=by
 intro d
 induction d with
 | zero=>intro i _; rfl
 | succ d ih=>intro i h; rw [pivF,pivF,h i lR oM,ih (i + 1) fun a h1 h2=>h a oM oM]
theorem swp_ge {F G:Nat -> Nat -> Cx} {c p b:Nat} (hp:c <= p) (h:∀ a,c <= a -> F a b = G a b):∀ a,c <= a -> swp F c p a b = swp G c p a b:=fun a ha=>by
 unfold swp
 split
 ·exact h p hp
 ·split
  ·exact h c lR
  ·exact h a ha
def clrQ (F:Nat -> Nat -> Cx) (r c n:Nat):Nat -> Nat -> Cx:=fun a b=>if r < a /\ a < n /\ c <= b then (F a b).sub (((F a c).div (F r c)).mul (F r b)) else F a b
def echQ (rows:Nat):Nat -> Nat -> Nat -> (Nat -> Nat -> Cx) -> Bool -> (Nat -> Nat -> Cx) × Nat × Bool
 | 0,_,r,F,o=>(F,r,o)
 | d + 1,c,r,F,o =>
  if r < rows then
   if pivF F c r (rows - r) < 0 then echQ rows d (c + 1) r F o
   else echQ rows d (c + 1) (r + 1) (clrQ (swp F r (pivF F c r (rows - r)).toNat) r c rows) (if pivF F c r (rows - r) = (r:Int) then o else !o)
  else (F,r,o)
theorem clear_agree {F G:Nat -> Nat -> Cx} {r c n:Nat} (h:∀ a b,c <= b -> F a b = G a b):∀ a b,c + 1 <= b -> clrQ F r c n a b = clearF G r c n a b:=fun a b hb=>by
 unfold clrQ clearF clearP
 rw [h a b oM,h a c lR,h r c lR,h r b oM]
 by_cases h1:r < a /\ a < n
 ·rw [if_pos ⟨h1.1,h1.2,oM⟩,if_pos oM]
 ·rw [if_neg oM,if_neg oM]
theorem ech_rank (rows:Nat):∀ (d c r:Nat) (F G:Nat -> Nat -> Cx) (o:Bool),(∀ a b,c <= b -> F a b = G a b) -> (echQ rows d c r F o).2.1 = rkS rows d c r G:=by
 intro d
 induction d with
 | zero=>intro c r F G o _; rfl
 | succ d ih =>
  intro c r F G o h
  rw [echQ,rkS,pivF_congr (F:=F) (F':=G) c (fun i=>h i c lR)]
  split
  ·split
   ·exact ih _ _ _ _ _ fun a b hb=>h a b oM
   ·refine ih _ _ _ _ _ (clear_agree fun a b hb=>?_)
    unfold swp
    split
    ·exact h _ b hb
    ·split
     ·exact h _ b hb
     ·exact h _ b hb
  ·rfl
theorem ech_zero (n c0:Nat):∀ (d c r:Nat) (F:Nat -> Nat -> Cx) (o:Bool),c0 < c -> c0 <= r -> r + 0 <= n -> (∀ a,c0 <= a -> a < n -> F a c0 = .zero) -> ∀ a,c0 <= a -> a < n -> (echQ n d c r F o).1 a c0 = .zero:=by
 intro d
 induction d with
 | zero=>intro c r F o _ _ _ h; exact h
 | succ d ih =>
  intro c r F o h1 h2 h3 h
  rw [echQ]
  split
  ·rename_i hr
   split
   ·exact ih _ _ _ _ oM h2 h3 h
   ·rcases pivF_cases F c (n - r) r with ⟨hp,-⟩ | ⟨p,q1,q2,hp,-,-⟩
    ·omega
    ·rw [hp]
     refine ih _ _ _ _ oM oM oM fun a ha hn=>?_
     unfold clrQ
     rw [if_neg oM]
     unfold swp
     split
     ·exact h _ oM (by simp only [Int.toNat_natCast]; omega)
     ·split
      ·exact h _ h2 oM
      ·exact h _ ha hn
  ·exact h
def prdQ (F:Nat -> Nat -> Cx):Nat -> Cx
 | 0=>.int 1
 | i + 1=>(prdQ F i).mul (F i i)
theorem prdQ_prodD (F:Nat -> Nat -> Cx):∀ c,prdQ F (c + 1) = prodD F c:=by
 intro c
 induction c with
 | zero=>rw [prdQ,prdQ,Cx.one_mul]; rfl
 | succ c ih=>rw [prdQ,ih]; rfl
theorem prdQ_zero {F:Nat -> Nat -> Cx} {c:Nat} (h:F c c = .zero):∀ n,c < n -> prdQ F n = .zero:=by
 intro n
 induction n with
 | zero=>intro h; omega
 | succ n ih =>
  intro hc
  rw [prdQ]
  by_cases e:c = n
  ·subst e
   rw [h,Cx.mul_zero]
  ·rw [ih oM,Cx.zero_mul]
theorem prdQ_congr {F G:Nat -> Nat -> Cx}:∀ n,(∀ i,i < n -> F i i = G i i) -> prdQ F n = prdQ G n:=by
 intro n
 induction n with
 | zero=>intro _; rfl
 | succ n ih=>intro h; rw [prdQ,prdQ,ih fun i hi=>h i oM,h n oM]
def detQ (n:Nat) (R:(Nat -> Nat -> Cx) × Nat × Bool):Cx:=if R.2.2 then (prdQ R.1 n).neg else prdQ R.1 n
theorem Cx.neg_zero':Cx.zero.neg = .zero:=by apply Cx.ext <;> simp only [Cx.neg,Cx.zero] <;> grind
theorem ech_det (n:Nat) (hn:0 < n):∀ (d c:Nat) (F G:Nat -> Nat -> Cx) (o:Bool) (ex:Nat),c + d = n -> (∀ a b,c <= b -> F a b = G a b) -> (∀ i,i < c -> F i i = G i i) -> (o = true ↔ ex % 2 = 1) ->
  detQ n (echQ n d c c F o) = detR n (elimS n d c G ex):=by
 intro d
 induction d with
 | zero =>
  intro c F G o ex h hF hd ho
  obtain rfl:c = n:=oM
  have e:prdQ F c = prodD G (c - 1):=by
   rw [<- prdQ_prodD,show c - 1 + 1 = c by omega]
   exact prdQ_congr _ hd
  rw [echQ,elimS]
  unfold detQ detR
  dsimp only
  rw [if_neg (show ¬ c < c by omega),e]
  by_cases h1:ex % 2 = 1
  ·rw [if_pos h1,if_pos (ho.2 h1)]
  ·rw [if_neg h1,if_neg (fun c=>h1 (ho.1 c))]
 | succ d ih =>
  intro c F G o ex h hF hd ho
  rw [echQ,if_pos oM,elimS,pivF_congr (F:=F) (F':=G) c (fun i=>hF i c lR)]
  rcases pivF_cases G c (n - c) c with ⟨hp,hz⟩ | ⟨p,q1,q2,hp,-,-⟩
  ·rw [hp,if_pos (show (-1:Int) < 0 by omega),if_pos (show (-1:Int) < 0 by omega)]
   have h0:(echQ n d (c + 1) c F o).1 c c = .zero:=ech_zero n c d (c + 1) c F o oM lR oM (fun a h1 h2=>by rw [hF a c lR]; exact hz a h1 oM) c lR oM
   unfold detQ detR
   dsimp only
   rw [if_pos (show c < n by omega),prdQ_zero h0 n oM,Cx.neg_zero']
   split <;> rfl
  ·have hp0:¬ ((p:Int) < 0):=oM
   rw [hp,if_neg hp0,if_neg hp0]
   have hs:∀ a b,c <= b -> swp F c p a b = swp G c p a b:=fun a b hb=>by
    unfold swp
    split
    ·exact hF _ b hb
    ·split
     ·exact hF _ b hb
     ·exact hF _ b hb
   have hdg:∀ i,i < c + 1 -> clrQ (swp F c p) c c n i i = clearF (swp G c p) c c n i i:=fun i hi=>by
    rw [clear_row i i oM]
    unfold clrQ
    rw [if_neg oM]
    by_cases e:i = c
    ·subst e
     exact hs _ _ lR
    ·unfold swp
     rw [if_neg e,if_neg oM,if_neg e,if_neg oM]
     exact hd i oM
   simp only [Int.toNat_natCast]
   by_cases e:p = c
   ·subst e
    have hcl:=clear_agree (r:=p) (n:=n) hs
    simp only [if_true]
    rw [swp_id G] at hdg hcl
    exact ih _ _ _ _ _ oM hcl hdg ho
   ·have hpe:¬ ((p:Int) = (c:Int)):=oM
    simp only [if_neg hpe]
    refine ih _ _ _ _ _ oM (clear_agree hs) hdg ?_
    cases o
    ·simp only [Bool.not_false,true_iff]
     have:¬ ex % 2 = 1:=fun c=>by have:=ho.2 c; cases this
     omega
    ·simp only [Bool.not_true,Bool.false_eq_true,false_iff]
     have:=ho.1 rfl
     omega
theorem rdet_eq {n:Nat} (hn:0 < n) (F:Nat -> Nat -> Cx):detQ n (echQ n n 0 0 F false) = detF n F :=
 ech_det n hn n 0 F F false 0 oM (fun _ _ _=>rfl) (fun i hi=>oM) sP
def gjC (F:Nat -> Nat -> Cx) (c n:Nat):Nat -> Nat -> Cx:=fun a b=>if a ≠ c /\ a < n /\ c <= b then (F a b).sub (((F a c).div (F c c)).mul (F c b)) else F a b
def gjS (n:Nat):Nat -> Nat -> (Nat -> Nat -> Cx) -> Bool × (Nat -> Nat -> Cx)
 | 0,_,F=>(true,F)
 | d + 1,c,F=>if pivF F c c (n - c) < 0 then (false,F) else gjS n d (c + 1) (gjC (swp F c (pivF F c c (n - c)).toNat) c n)
theorem gj_agree {F G:Nat -> Nat -> Cx} {c n:Nat} (h:∀ a b,c <= a -> c <= b -> F a b = G a b):∀ a b,c + 1 <= a -> c + 1 <= b -> gjC F c n a b = clearF G c c n a b:=fun a b ha hb=>by
 unfold gjC clearF clearP
 rw [h a b oM oM,h a c oM lR,h c c lR lR,h c b lR oM]
 by_cases h1:a < n
 ·rw [if_pos ⟨oM,h1,oM⟩,if_pos oM]
 ·rw [if_neg oM,if_neg oM]
theorem gj_elim (n:Nat):∀ (d c:Nat) (F G:Nat -> Nat -> Cx) (ex:Nat),c + d = n -> (∀ a b,c <= a -> c <= b -> F a b = G a b) -> ((gjS n d c F).1 = true ↔ (elimS n d c G ex).1 = n):=by
 intro d
 induction d with
 | zero=>intro c F G ex h _; rw [gjS,elimS]; simp only [true_iff]; omega
 | succ d ih =>
  intro c F G ex h hF
  rw [gjS,pivF_congr' (G:=G) c (n - c) c fun a h1 _=>hF a c h1 lR]
  rcases elimS_step n d c G ex h with ⟨-,e,hp⟩ | ⟨p,ex',q1,q2,-,hp,e,-⟩
  ·rw [hp,if_pos oM,e]
   constructor
   ·intro h; cases h
   ·intro h; simp only at h; omega
  ·rw [hp,if_neg oM,e]
   exact ih _ _ _ _ oM (gj_agree fun a b ha hb=>by simp only [Int.toNat_natCast]; exact swp_ge q1 (fun a ha=>hF a b ha hb) a ha)
def Done (n c:Nat) (F:Nat -> Nat -> Cx):Prop:=∀ j,j < c -> F j j ≠ .zero /\ ∀ i,i < n -> i ≠ j -> F i j = .zero
def SolW (n:Nat) (F:Nat -> Nat -> Cx) (x:Nat -> Cx):Prop:=∀ i,i < n -> sm (fun j=>(F i j).mul (x j)) 0 n = F i n
theorem SolW.swp {n c p:Nat} {F:Nat -> Nat -> Cx} {x:Nat -> Cx} (hc:c < n) (hp:p < n) (h:SolW n F x):SolW n (swp F c p) x:=fun i hi=>by
 unfold Go.Proofs.YtffegeaflohfhaaGreatDoor.swp
 by_cases h1:i = c
 ·simp only [if_pos h1]; exact h p hp
 ·by_cases h2:i = p
  ·simp only [if_neg h1,if_pos h2]; exact h c hc
  ·simp only [if_neg h1,if_neg h2]; exact h i hi
theorem Done.swp {n c p:Nat} {F:Nat -> Nat -> Cx} (hp:c <= p) (hpn:p < n) (h:Done n c F):Done n c (swp F c p):=fun j hj=>by
 obtain ⟨h1,h2⟩:=h j hj
 unfold Go.Proofs.YtffegeaflohfhaaGreatDoor.swp
 refine ⟨?_,fun i hi hij=>?_⟩
 ·simp only [if_neg (show ¬ j = c by omega),if_neg (show ¬ j = p by omega)]; exact h1
 ·by_cases k1:i = c
  ·simp only [if_pos k1]; exact h2 p hpn oM
  ·by_cases k2:i = p
   ·simp only [if_neg k1,if_pos k2]; exact h2 c oM oM
   ·simp only [if_neg k1,if_neg k2]; exact h2 i hi hij
theorem Cx.sub_self' (x:Cx):x.sub x = .zero:=by apply Cx.ext <;> simp only [Cx.sub,Cx.zero] <;> grind
theorem Cx.sub_zero' (x:Cx):x.sub .zero = x:=by apply Cx.ext <;> simp only [Cx.sub,Cx.zero] <;> grind
theorem Done.gj {n c:Nat} {F:Nat -> Nat -> Cx} (hc:c < n) (h0:F c c ≠ .zero) (h:Done n c F):Done n (c + 1) (gjC F c n):=fun j hj=>by
 unfold gjC
 by_cases e:j = c
 ·subst e
  refine ⟨by rw [if_neg oM]; exact h0,fun i hi hij=>?_⟩
  rw [if_pos ⟨hij,hi,Nat.le_refl _⟩,Cx.div_mul' _ h0,Cx.sub_self']
 ·obtain ⟨h1,h2⟩:=h j oM
  refine ⟨by rw [if_neg oM]; exact h1,fun i hi hij=>?_⟩
  rw [if_neg oM]
  exact h2 i hi hij
theorem SolW.gj {n c:Nat} {F:Nat -> Nat -> Cx} {x:Nat -> Cx} (hc:c < n) (hd:Done n c F) (h:SolW n F x):SolW n (gjC F c n) x:=fun i hi=>by
 by_cases e:i = c
 ·subst e
  unfold gjC
  simp only [show ¬ (i ≠ i /\ i < n /\ i <= n) from fun c=>c.1 rfl,if_false]
  have:∀ j,(if i ≠ i /\ i < n /\ i <= j then (F i j).sub (((F i i).div (F i i)).mul (F i j)) else F i j) = F i j:=fun j=>if_neg fun c=>c.1 rfl
  simp only [this]
  exact h i hi
 ·have row:∀ j,j < n -> gjC F c n i j = (F i j).sub (((F i c).div (F c c)).mul (F c j)):=fun j hj=>by
   unfold gjC
   by_cases hcj:c <= j
   ·rw [if_pos ⟨e,hi,hcj⟩]
   ·rw [if_neg oM,(hd j oM).2 c hc oM,Cx.mul_zero,Cx.sub_zero']
  have rhs:gjC F c n i n = (F i n).sub (((F i c).div (F c c)).mul (F c n)):=by
   unfold gjC
   rw [if_pos ⟨e,hi,oM⟩]
  rw [rhs,<- h i hi,<- h c hc,<- sm_subc]
  refine sm_congr _ _ fun j _ hj=>?_
  rw [row j oM]
  generalize (F i c).div (F c c) = f
  generalize F c j = u
  apply Cx.ext <;> simp only [Cx.sub,Cx.mul] <;> grind
theorem gj_keeps (n:Nat) (x:Nat -> Cx):∀ (d c:Nat) (F:Nat -> Nat -> Cx),c + d = n -> Done n c F -> SolW n F x -> (gjS n d c F).1 = true -> Done n n (gjS n d c F).2 /\ SolW n (gjS n d c F).2 x:=by
 intro d
 induction d with
 | zero => intro c F h hd hs _; obtain rfl : c = n := oM
           exact ⟨hd,hs⟩
 | succ d ih =>
  intro c F h hd hs ht
  rw [gjS] at ht ⊢
  rcases pivF_cases F c (n - c) c with ⟨hp,-⟩ | ⟨p,q1,q2,hp,q3,-⟩
  ·rw [hp,if_pos oM] at ht
   cases ht
  ·rw [hp,if_neg oM] at ht ⊢
   simp only [Int.toNat_natCast] at ht ⊢
   have h0:swp F c p c c ≠ .zero:=by
    unfold swp
    simp only [if_true]
    exact q3
   have d1:=hd.swp q1 oM
   exact ih _ _ oM (d1.gj oM h0) ((hs.swp oM oM).gj oM d1) ht
theorem gj_is {n:Nat} {F:Nat -> Nat -> Cx} {x:Nat -> Cx} (hs:SolW n F x) (ht:(gjS n n 0 F).1 = true):∀ i,i < n -> ((gjS n n 0 F).2 i n).div ((gjS n n 0 F).2 i i) = x i:=fun i hi=>by
 obtain ⟨hd,h⟩:=gj_keeps n x n 0 F oM (fun j hj=>oM) hs ht
 have e:=h i hi
 rw [sm_one hi fun j hj hij=>by rw [(hd j hj).2 i hi (Ne.symm hij),Cx.zero_mul]] at e
 have h0:=(hd i hi).1
 refine Cx.mul_cancel h0 ?_
 rw [Cx.mul_comm,Cx.div_mul' _ h0,e]
end Go.Proofs.YtffegeaflohfhaaGreatDoor
namespace Go.Proofs.YtffegeaflohfhaaGreatDoor
open Go.RowKit
structure RowsQ (B:Nat) (W:World) (go:Nat) (gi li ci:Nat -> Nat) (n k:Nat) (V:Nat -> Nat -> Prop) (F:Nat -> Nat -> Cx):Prop where
 sep:MatSep B go gi k
 kn:k <= n
 cells:∃ cs:Array Value,W.heap[go]? = some (.cells cs 50 (0,0)) /\ cs.size = n /\ (∀ i,i < k -> cs[i]? = some (.slice (some ⟨gi i,0,none⟩) (li i) (ci i))) /\ (∀ i,k <= i -> i < n -> cs[i]? = some (.slice none 0 0))
 rows:∀ i,i < k -> QBlk W (gi i) (ci i) (V i) (F i)
section
variable {B:Nat} {W W':World} {go:Nat} {gi li ci:Nat -> Nat} {n k:Nat} {V V':Nat -> Nat -> Prop} {F F':Nat -> Nat -> Cx}
theorem RowsQ.lt (h:RowsQ B W go gi li ci n k V F):go < W.heap.size:=by
 obtain ⟨cs,h,-⟩:=h.cells
 exact heap_ge_none h
theorem RowsQ.below (h:RowsQ B W go gi li ci n k V F) (hb:Below W.heap.size W W'):RowsQ B W' go gi li ci n k V F:=by
 have hlt:=h.lt
 obtain ⟨cs,h1,h2,h3,h4⟩:=h.cells
 exact ⟨h.sep,h.kn,⟨cs,(hb.block _ hlt).trans h1,h2,h3,h4⟩,fun i hi=>(h.rows i hi).below hb⟩
theorem RowsQ.cell (h:RowsQ B W go gi li ci n k V F) {i:Nat} (hi:i < k):W.cell? ⟨go,i,none⟩ = some (.slice (some ⟨gi i,0,none⟩) (li i) (ci i)):=by
 obtain ⟨cs,h1,h2,h3,-⟩:=h.cells
 rw [cell_of_row W go i cs _ (0,0) h1]
 exact h3 i hi
theorem RowsQ.cell_nil (h:RowsQ B W go gi li ci n k V F) {i:Nat} (hk:k <= i) (hi:i < n):W.cell? ⟨go,i,none⟩ = some (.slice none 0 0):=by
 obtain ⟨cs,h1,h2,-,h4⟩:=h.cells
 rw [cell_of_row W go i cs _ (0,0) h1]
 exact h4 i hk hi
theorem RowsQ.frozen (h:RowsQ B W go gi li ci n k V F) (i:Nat):W.frozen? ⟨go,i,none⟩ = false:=by
 obtain ⟨cs,h1,-⟩:=h.cells
 simp [World.frozen?,h1]
theorem RowsQ.to (h:RowsQ B W go gi li ci n k V F) (hV:∀ i j,i < k -> j < ci i -> V' i j -> V i j /\ F i j = F' i j):RowsQ B W go gi li ci n k V' F' :=
 ⟨h.sep,h.kn,h.cells,fun i hi=>(h.rows i hi).to fun j hj hv=>hV i j hi hj hv⟩
theorem RowsQ.odd (h:RowsQ B W go gi li ci n k V F):∃ cs,W.heap[go]? = some (.cells cs 50 (0,0)) /\ oddB cs = true /\ cs.size = n:=by
 obtain ⟨cs,h1,h2,h3,h4⟩:=h.cells
 refine ⟨cs,h1,?_,h2⟩
 unfold oddB
 rw [List.all_eq_true]
 intro v hv
 obtain ⟨i,hi,rfl⟩:=List.getElem_of_mem hv
 have hi':i < n:=by simpa [h2] using hi
 have hget:∀ u,cs[i]? = some u -> cs.toList[i] = u:=fun u hu=>by
  obtain ⟨hlt,hu⟩:=Array.getElem?_eq_some_iff.1 hu
  simpa using hu
 rcases Nat.lt_or_ge i k with hik | hik
 ·rw [hget _ (h3 i hik)]
 ·rw [hget _ (h4 i hik hi')]
theorem RowsQ.cut (h:RowsQ B W go gi li ci n k V F) {i l c:Nat} {A:Option Addr}:But W (W.setCell ⟨go,i,none⟩ (.slice A l c)) go /\ Ext W (W.setCell ⟨go,i,none⟩ (.slice A l c)):=by
 obtain ⟨cs,h1,h2,-⟩:=h.odd
 have hbut:But W (W.setCell ⟨go,i,none⟩ (.slice A l c)) go:=by
  rw [setCell_eq_setRow W go i cs _ (0,0) _ h1]
  exact But.setRow _ _ _
 exact ⟨hbut,hbut.ext h1 h2⟩
theorem RowsQ.lay (h:RowsQ B W go gi li ci n k V F) {i:Nat} (hi:i <= k) (hn:i < n) {g l c:Nat} {U:Nat -> Prop} {f:Nat -> Cx} (hB:B <= g) (hg:g ≠ go) (hne:∀ j,j < k -> j ≠ i -> gi j ≠ g) (hr:QBlk W g c U f) :
  RowsQ B (W.setCell ⟨go,i,none⟩ (.slice (some ⟨g,0,none⟩) l c)) go (upf gi i g) (upf li i l) (upf ci i c) n (max k (i + 1)) (upf V i U) (upf F i f):=by
 obtain ⟨hbut,hext⟩:=h.cut (i:=i) (l:=l) (c:=c) (A:=some ⟨g,0,none⟩)
 obtain ⟨cs,h1,h2,h3,h4⟩:=h.cells
 have hk:=h.kn
 refine ⟨⟨h.sep.lo,fun j hj=>?_,fun j hj=>?_,fun a b ha hb e=>?_⟩,oM,⟨cs.setIfInBounds i (.slice (some ⟨g,0,none⟩) l c),?_,by simp [h2],fun j hj=>?_,fun j hj hin=>?_⟩,fun j hj=>?_⟩
 ·by_cases e:j = i
  ·rw [e,upf_same]; exact hB
  ·rw [upf_other _ _ e]; exact h.sep.los j oM
 ·by_cases e:j = i
  ·rw [e,upf_same]; exact hg
  ·rw [upf_other _ _ e]; exact h.sep.ne j oM
 ·by_cases ea:a = i
  ·by_cases eb:b = i
   ·omega
   ·rw [ea,upf_same,upf_other _ _ eb] at e
    exact absurd e.symm (hne b oM eb)
  ·by_cases eb:b = i
   ·rw [eb,upf_same,upf_other _ _ ea] at e
    exact absurd e (hne a oM ea)
   ·rw [upf_other _ _ ea,upf_other _ _ eb] at e
    exact h.sep.inj a b oM oM e
 ·rw [setCell_eq_setRow W go i cs _ (0,0) _ h1]
  exact setRow_heap W go cs _ _ _ h1
 ·rw [Array.getElem?_setIfInBounds]
  by_cases e:i = j
  ·subst e
   rw [if_pos rfl,if_pos oM,upf_same,upf_same,upf_same]
  ·rw [if_neg e,upf_other _ _ (Ne.symm e),upf_other _ _ (Ne.symm e),upf_other _ _ (Ne.symm e)]
   exact h3 j oM
 ·rw [Array.getElem?_setIfInBounds,if_neg oM]
  exact h4 j oM hin
 ·by_cases e:j = i
  ·rw [e,upf_same,upf_same,upf_same,upf_same]
   exact hr.but hbut hext hg
  ·rw [upf_other _ _ e,upf_other _ _ e,upf_other _ _ e,upf_other _ _ e]
   exact (h.rows j oM).but hbut hext (h.sep.ne j oM)
theorem RowsQ.set (h:RowsQ B W go gi li ci n k V F) {i:Nat} (hi:i < k) {f:Nat -> Cx} {U:Nat -> Prop} (hb:But W W' (gi i)) (he:Ext W W') (hr:QBlk W' (gi i) (ci i) U f):RowsQ B W' go gi li ci n k (upf V i U) (upf F i f):=by
 obtain ⟨cs,h1,h2,h3,h4⟩:=h.cells
 refine ⟨h.sep,h.kn,⟨cs,(hb.other _ (Ne.symm (h.sep.ne i hi))).trans h1,h2,h3,h4⟩,fun j hj=>?_⟩
 by_cases hji:j = i
 ·subst hji
  rw [upf_same,upf_same]
  exact hr
 ·rw [upf_other _ _ hji,upf_other _ _ hji]
  exact (h.rows j hj).ext he (hb.other _ fun e=>hji (h.sep.inj j i hj hi e))
theorem swp_lt {c p i k:Nat} (hc:c < k) (hp:p < k) (hi:i < k):swp (fun j=>j) c p i < k:=by
 unfold swp
 split
 ·exact hp
 ·split
  ·exact hc
  ·exact hi
theorem swp_fun {α:Type} (f:Nat -> α) (c p i:Nat):swp f c p i = f (swp (fun j=>j) c p i):=by
 unfold swp
 split
 ·rfl
 ·split <;> rfl
theorem swp_inj {c p i j:Nat} (e:swp (fun j=>j) c p i = swp (fun j=>j) c p j):i = j:=by
 unfold swp at e
 split at e <;> split at e <;> (try split at e) <;> (try split at e) <;> (try dsimp only at e) <;> omega
theorem RowsQ.swap (h:RowsQ B W go gi li ci n k V F) {c p:Nat} (hc:c < k) (hp:p < k) :
  RowsQ B ((W.setCell ⟨go,c,none⟩ (.slice (some ⟨gi p,0,none⟩) (li p) (ci p))).setCell ⟨go,p,none⟩ (.slice (some ⟨gi c,0,none⟩) (li c) (ci c))) go (swp gi c p) (swp li c p) (swp ci c p) n k (swp V c p) (swp F c p) /\
   Below B W ((W.setCell ⟨go,c,none⟩ (.slice (some ⟨gi p,0,none⟩) (li p) (ci p))).setCell ⟨go,p,none⟩ (.slice (some ⟨gi c,0,none⟩) (li c) (ci c))):=by
 obtain ⟨b1,e1⟩:=h.cut (i:=c) (l:=li p) (c:=ci p) (A:=some ⟨gi p,0,none⟩)
 obtain ⟨cs,h1,h2,h3,h4⟩:=h.cells
 have x1:(W.setCell ⟨go,c,none⟩ (.slice (some ⟨gi p,0,none⟩) (li p) (ci p))).heap[go]? = some (.cells (cs.setIfInBounds c (.slice (some ⟨gi p,0,none⟩) (li p) (ci p))) 50 (0,0)):=by
  rw [setCell_eq_setRow W go c cs _ (0,0) _ h1]
  exact setRow_heap W go cs _ _ _ h1
 obtain ⟨cs0,k1,k2,-⟩:=h.odd
 rw [h1] at k1
 have he0:cs = cs0:=by cases k1; rfl
 rw [<- he0] at k2
 have hodd2:oddB (cs.setIfInBounds c (.slice (some ⟨gi p,0,none⟩) (li p) (ci p))) = true:=by
  unfold oddB at *
  rw [List.all_eq_true] at *
  intro v hv
  rw [Array.toList_setIfInBounds] at hv
  rcases List.mem_or_eq_of_mem_set hv with hv | rfl
  ·exact k2 v hv
  ·rfl
 generalize hW1:W.setCell ⟨go,c,none⟩ (.slice (some ⟨gi p,0,none⟩) (li p) (ci p)) = W1 at *
 have b2:But W1 (W1.setCell ⟨go,p,none⟩ (.slice (some ⟨gi c,0,none⟩) (li c) (ci c))) go:=by
  rw [setCell_eq_setRow W1 go p _ _ (0,0) _ x1]
  exact But.setRow _ _ _
 have e2:=b2.ext x1 hodd2
 have x2:(W1.setCell ⟨go,p,none⟩ (.slice (some ⟨gi c,0,none⟩) (li c) (ci c))).heap[go]? = some (.cells ((cs.setIfInBounds c (.slice (some ⟨gi p,0,none⟩) (li p) (ci p))).setIfInBounds p (.slice (some ⟨gi c,0,none⟩) (li c) (ci c))) 50 (0,0)):=by
  rw [setCell_eq_setRow W1 go p _ _ (0,0) _ x1]
  exact setRow_heap W1 go _ _ _ _ x1
 have hk:=h.kn
 refine ⟨⟨⟨h.sep.lo,fun i hi=>?_,fun i hi=>?_,fun i j hi hj e=>?_⟩,hk,⟨_,x2,by simp [h2],fun i hi=>?_,fun i hik hin=>?_⟩,fun i hi=>?_⟩,b2.below (b1.below rfB h.sep.lo) h.sep.lo⟩
 ·rw [swp_fun]; exact h.sep.los _ (swp_lt hc hp hi)
 ·rw [swp_fun]; exact h.sep.ne _ (swp_lt hc hp hi)
 ·rw [swp_fun gi c p i,swp_fun gi c p j] at e
  exact swp_inj (h.sep.inj _ _ (swp_lt hc hp hi) (swp_lt hc hp hj) e)
 ·rw [Array.getElem?_setIfInBounds,Array.getElem?_setIfInBounds]
  unfold swp
  by_cases hip:p = i
  ·subst hip
   rw [if_pos rfl,if_pos sO]
   by_cases hcp:p = c
   ·subst hcp
    simp
   ·simp only [if_neg hcp,if_true]
  ·rw [if_neg hip]
   by_cases hic:c = i
   ·subst hic
    rw [if_pos rfl,if_pos oM]
    simp only [if_true]
   ·rw [if_neg hic]
    simp only [if_neg (Ne.symm hic),if_neg (Ne.symm hip)]
    exact h3 i hi
 ·rw [Array.getElem?_setIfInBounds,if_neg oM,Array.getElem?_setIfInBounds,if_neg oM]
  exact h4 i hik hin
 ·rw [swp_fun gi,swp_fun ci,swp_fun V,swp_fun F]
  have hlt:=swp_lt hc hp hi
  exact ((h.rows _ hlt).but b1 e1 (h.sep.ne _ hlt)).but b2 e2 (h.sep.ne _ hlt)
end
abbrev tM:TypeId:=28
abbrev tR:TypeId:=50
abbrev tQ:TypeId:=42
theorem uM:Tryz.prog.underlying tM = some (.slice tR):=Tryz.underlying28
theorem uR:Tryz.prog.underlying tR = some (.slice tQ):=Tryz.underlying50
theorem sR:∀ w,(sizeOf tR).run Tryz.prog w = .ok 1 w:=fun w=>kR
theorem sQ:∀ w,(sizeOf tQ).run Tryz.prog w = .ok 5 w:=fun w=>kR
theorem aR:∀ w,(isAgg tR).run Tryz.prog w = .ok false w:=fun w=>by
 unfold isAgg
 rw [Sem.run_bind,run_underlying uR w]
 rfl
section
variable {ops:Array Oper} {kl:List RK} {B:Nat} {w0:World} {a0:Act} {o:Oper} {i:Nat}
theorem uQe {x:Operand} {g n k:Nat} {V:Nat -> Prop} {f:Nat -> Cx} (ho:o.op = .load tQ x) (hx:Kn ops kl a0 i x (fun _=>.pointer (some ⟨g,5 * k,none⟩))) (hQ:∀ W,Below B w0 W -> QBlk W g n V f) (hk:k < n) (hV:V k):ObU Tryz.prog ops kl B w0 a0 o i (kQ (f k)) :=
 fun ts W a ha hb hB hp K hK=>⟨wp_load_qe ho (hx ts W a ha hp) (hQ W hb) hk hV fun v hv=>hK _ _ hv rfB⟩
theorem uIr {g l c k:Nat} {x y:Operand} (ho:o.op = .indexAddr tM x y) (hx:Kn ops kl a0 i x (fun _=>.slice (some ⟨g,0,none⟩) l c)) (hy:Kn ops kl a0 i y (fun _=>.int .i64 (k:Int))) (hk:k < l):ObU Tryz.prog ops kl B w0 a0 o i (kIs (.pointer (some ⟨g,k,none⟩))) :=
 uIx ho hx hy hk (Nat.mul_one k) uM sR
theorem uIq {g l c k:Nat} {x y:Operand} (ho:o.op = .indexAddr tR x y) (hx:Kn ops kl a0 i x (fun _=>.slice (some ⟨g,0,none⟩) l c)) (hy:Kn ops kl a0 i y (fun _=>.int .i64 (k:Int))) (hk:k < l):ObU Tryz.prog ops kl B w0 a0 o i (kIs (.pointer (some ⟨g,5 * k,none⟩))) :=
 uIx ho hx hy hk (Nat.mul_comm k 5) uR sQ
theorem uLr' {x:Operand} {b:Addr} {v:Value} (ho:o.op = .load tR x) (hx:Kn ops kl a0 i x (fun _=>.pointer (some b))) (hc:∀ W,Below B w0 W -> W.cell? b = some v):ObU Tryz.prog ops kl B w0 a0 o i (kIs v):=uLc ho hx hc aR
end
theorem PMatQ.rows0 {B:Nat} {W:World} {go:Nat} {gi li ci:Nat -> Nat} {n m:Nat} {F:Nat -> Nat -> Cx} {V:Nat -> Nat -> Prop} (h:PMatQ B W go gi n m 0 F):RowsQ B W go gi li ci n 0 V F:=by
 obtain ⟨cs,h1,h2,-,h4⟩:=h.cells
 exact ⟨h.sep,h.kn,⟨cs,h1,h2,fun i hi=>oM,h4⟩,fun i hi=>oM⟩
def El (W:World) (cs:Array Value) (o:Nat) (V:Prop) (x:Cx):Prop:=∃ A B C p q na ca nb cb nc cc,cs[o]? = some (.bool p) /\ cs[o + 1]? = some (.slice A na ca) /\ cs[o + 2]? = some (.bool q) /\ cs[o + 3]? = some (.slice B nb cb) /\ cs[o + 4]? = some (.slice C nc cc) /\
 (V -> IsQ W (.agg #[.bool p,.slice A na ca,.bool q,.slice B nb cb,.slice C nc cc]) x)
theorem El.to {W W':World} {cs cs':Array Value} {o o':Nat} {V V':Prop} {x:Cx} (h:El W cs o V x) (he:Ext W W') (hV:V' -> V) (hc:∀ r,r < 5 -> cs'[o' + r]? = cs[o + r]?):El W' cs' o' V' x:=by
 obtain ⟨A,B,C,p,q,na,ca,nb,cb,nc,cc,a1,a2,a3,a4,a5,a6⟩:=h
 exact ⟨A,B,C,p,q,na,ca,nb,cb,nc,cc,(hc 0 oM).trans a1,(hc 1 oM).trans a2,(hc 2 oM).trans a3,(hc 3 oM).trans a4,(hc 4 oM).trans a5,fun h=>IsQ.ext (a6 (hV h)) he⟩
theorem El.nil (W:World) (cs:Array Value) (o:Nat) (x:Cx) (hc:∀ r,r < 5 -> cs[o + r]? = some (zQ[r]!)):El W cs o False x :=
 ⟨none,none,none,false,false,0,0,0,0,0,0,hc 0 oM,hc 1 oM,hc 2 oM,hc 3 oM,hc 4 oM,fun h=>h.elim⟩
theorem zero_at (k i r:Nat) (hi:i < k) (hr:r < 5):(Builtin.zeroCells zQ k)[5 * i + r]? = some (zQ[r]!):=by
 have h2:(5 * i + r) % 5 = r:=oM
 have h1:5 * i + r < k * 5:=oM
 simp [Builtin.zeroCells,zQ,h1,h2]
theorem zQ_one:zQ.all (·.oneCell') = true:=by simp [zQ,Value.oneCell']
theorem cell_row {W:World} {b:Nat} {ds:Array Value} {T:TypeId} (hb:W.heap[b]? = some (.cells ds T (0,0))):∀ j u,ds.toList[j]? = some u -> W.cell? ((⟨b,0,none⟩:Addr).add j) = some u:=fun j u hu=>by
 have hadd:(⟨b,0,none⟩:Addr).add j = ⟨b,j,none⟩:=by unfold Addr.add; split <;> simp_all
 rw [hadd,cell_of_row W b _ ds _ (0,0) hb]
 simpa using hu
theorem row_copy {w:World} {e g m cc:Nat} {F:Nat -> Cx} (he:w.heap[e]? = some (.cells #[] 42 (0,0))) (hg:QBlk w g m (fun _=>True) F) (hm:m < 1000000000) :
  ∃ W' gN c',(∀ ty,(Builtin.append_ #[50,50] ty #[.slice (some ⟨e,0,none⟩) 0 0,.slice (some ⟨g,0,none⟩) m cc]).run Tryz.prog w = .ok (.slice (some ⟨gN,0,none⟩) m c') W') /\
   Below e w W' /\ (gN = e ∨ gN = w.heap.size) /\ m <= c' /\ QBlk W' gN c' (fun j=>j < m) F:=by
 obtain ⟨i,hi,hz,hs,hbt⟩:=info_q
 obtain ⟨cs,h1,h2,h3,h4⟩:=hg
 have helt:e < w.heap.size:=heap_ge_none he
 rcases Nat.eq_zero_or_pos m with h0 | h0
 ·subst h0
  have hr:=fun ty=>run_append_room (P:=Tryz.prog) w 50 ty 42 i Tryz.underlying50 hi e 0 0 #[] he ⟨g,0,none⟩ 0 cc [] sP (fun j u hu=>by simp at hu) (fun u hu=>by simp at hu) oM sP
  have hb:=But.setRow w e #[]
  refine ⟨w.setRow e #[],e,0,fun ty=>by simpa using hr ty,hb.below rfB lR,.inl rfl,Nat.le_refl _,#[],setRow_heap w e _ _ _ _ he,rfl,sP,fun j hj=>oM⟩
 ·have hr:=fun ty=>run_append_grow (P:=Tryz.prog) w 50 ty 42 i (.agg zQ) Tryz.underlying50 hi hz ⟨e,0,none⟩ 0 0 [] sP (fun j u hu=>by simp at hu) ⟨g,0,none⟩ m cc cs.toList (by simp [hs,h2]; omega) (cell_row h1) oM oM (growslice_fits oM (by
   have:(0 + m) * i.bytes <= 1000000000 * 200:=Nat.mul_le_mul oM hbt
   omega))
  have hge:=grownCap_ge w (0 + m) 0 42
  generalize grownCap w (0 + m) 0 42 = cap at *
  simp only [Nat.zero_add] at hr hge
  have hcs:(([]:List Value).toArray ++ cs.toList.toArray ++ Builtin.zeroCells (Value.agg zQ).cells (cap - m)) = cs ++ Builtin.zeroCells zQ (cap - m):=by simp [Value.cells]
  rw [hcs] at hr
  have hb:Below w.heap.size w (w.drew.alloc (.cells (cs ++ Builtin.zeroCells zQ (cap - m)) 42)):=(rfB.drew).alloc lR _
  have hx:=Ext.of_below hb
  refine ⟨_,w.heap.size,cap,hr,hb.mono (Nat.le_of_lt helt),.inr rfl,hge,_,heap_alloc_new w.drew _,?_,one_app h3 (one_sub zQ_one (zero_sub zQ dE _)),fun j hj=>?_⟩
  ·simp [size_zeroCells,h2,zQ]; omega
  ·show El _ _ (5 * j) (j < m) (F j)
   by_cases hjm:j < m
   ·refine El.to (cs:=cs) (o:=5 * j) (h4 j hjm) hx (fun _=>trivial) fun r hr=>?_
    rw [Array.getElem?_append_left oM]
   ·refine El.to (cs:=Builtin.zeroCells zQ (cap - m)) (o:=5 * (j - m)) (V:=False) (El.nil w _ _ _ fun r hr=>zero_at _ _ r oM hr) hx (fun h=>hjm h) fun r hr=>?_
    rw [Array.getElem?_append_right oM,h2,show 5 * j + r - 5 * m = 5 * (j - m) + r by omega]
theorem row_more {w:World} {g m c g1 c1:Nat} {F:Nat -> Cx} {x:Cx} (hg:QBlk w g c (fun j=>j < m) F) (hm:m <= c) (hmb:m < 1000000000) (h1:QBlk w g1 1 (fun _=>True) (fun _=>x)) :
  ∃ W' gN c',(∀ ty,(Builtin.append_ #[50,50] ty #[.slice (some ⟨g,0,none⟩) m c,.slice (some ⟨g1,0,none⟩) 1 c1]).run Tryz.prog w = .ok (.slice (some ⟨gN,0,none⟩) (m + 1) c') W') /\
   ((gN = g /\ c' = c /\ But w W' g /\ Ext w W') ∨ (gN = w.heap.size /\ Below w.heap.size w W')) /\ m + 1 <= c' /\ QBlk W' gN c' (fun j=>j < m + 1) (upf F m x):=by
 obtain ⟨i,hi,hz,hs,hbt⟩:=info_q
 obtain ⟨cs0,k1,-,ko⟩:=hg.odd
 obtain ⟨cs,h2,h3,h4,h5⟩:=hg
 rw [h2] at k1
 obtain rfl:cs = cs0:=by cases k1; rfl
 obtain ⟨vs,v1,v2,v3,v4⟩:=h1
 have e0:=v4 0 oM
 have hadd:=cell_row v1
 have hv5:vs.size = 5:=oM
 by_cases hr:m < c
 ·have hbut:=But.setRow w g (cs.toList.take (m * 5) ++ vs.toList ++ cs.toList.drop (m * 5 + 5)).toArray
  have hext:=hbut.ext h2 ko
  have hcell:=setRow_heap w g cs (cs.toList.take (m * 5) ++ vs.toList ++ cs.toList.drop (m * 5 + 5)).toArray _ _ h2
  have hget:∀ k,(cs.toList.take (m * 5) ++ vs.toList ++ cs.toList.drop (m * 5 + 5)).toArray[k]? = if k < m * 5 then cs[k]? else if k < m * 5 + 5 then vs[k - m * 5]? else cs[k]?:=fun k=>by
   have hl:(cs.toList.take (m * 5)).length = m * 5:=sO
   have hv:vs.toList.length = 5:=by simpa using hv5
   simp only [List.getElem?_toArray]
   by_cases c1:k < m * 5
   ·rw [if_pos c1,List.append_assoc,List.getElem?_append_left (by rw [hl]; exact c1),List.getElem?_take_of_lt c1]
    simp
   ·rw [if_neg c1]
    by_cases c2:k < m * 5 + 5
    ·rw [if_pos c2,List.append_assoc,List.getElem?_append_right (by rw [hl]; omega),hl,List.getElem?_append_left (by rw [hv]; omega)]
     simp
    ·rw [if_neg c2,List.getElem?_append_right (by rw [List.length_append,hl,hv]; omega)]
     simp only [List.length_append,hl,hv,List.getElem?_drop]
     rw [show m * 5 + 5 + (k - (m * 5 + 5)) = k by omega]
     simp
  refine ⟨_,g,c,fun ty=>?_,.inl ⟨rfl,rfl,hbut,hext⟩,oM,_,hcell,?_,?_,fun j hj=>?_⟩
  ·have:=run_append_room (P:=Tryz.prog) w 50 ty 42 i Tryz.underlying50 hi g m c cs h2 ⟨g1,0,none⟩ 1 c1 vs.toList (by simp [hs,hv5]) hadd (fun u hu=>Array.all_eq_true_iff_forall_mem.1 v3 u (by simpa using hu)) oM (by simp [hs,hv5]; omega)
   simpa only [hs,Array.length_toList,hv5] using this
  ·simp [hv5,h3]; omega
  ·refine one_mem fun v hv=>?_
   simp only [List.mem_append] at hv
   rcases hv with (hv | hv) | hv
   ·exact ⟨cs,h4,List.mem_of_mem_take hv⟩
   ·exact ⟨vs,v3,hv⟩
   ·exact ⟨cs,h4,List.mem_of_mem_drop hv⟩
  ·show El _ _ (5 * j) (j < m + 1) (upf F m x j)
   by_cases hjm:j = m
   ·subst hjm
    rw [upf_same]
    refine El.to (cs:=vs) (o:=5 * 0) e0 hext (fun _=>trivial) fun r hr=>?_
    rw [hget,if_neg oM,if_pos oM,show 5 * j + r - j * 5 = 5 * 0 + r by omega]
   ·rw [upf_other _ _ hjm]
    refine El.to (cs:=cs) (o:=5 * j) (h5 j hj) hext (fun h=>oM) fun r hr=>?_
    rw [hget]
    by_cases c1:5 * j + r < m * 5
    ·rw [if_pos c1]
    ·rw [if_neg c1,if_neg oM]
 ·obtain rfl:m = c:=oM
  have hr:=fun ty=>run_append_grow (P:=Tryz.prog) w 50 ty 42 i (.agg zQ) Tryz.underlying50 hi hz ⟨g,0,none⟩ m m cs.toList (by simp [hs,h3]; omega) (cell_row h2) ⟨g1,0,none⟩ 1 c1 vs.toList (by simp [hs,hv5]) hadd oM oM (growslice_fits oM (by
   have:(m + 1) * i.bytes <= 1000000000 * 200:=Nat.mul_le_mul oM hbt
   omega))
  have hge:=grownCap_ge w (m + 1) m 42
  generalize grownCap w (m + 1) m 42 = cap at *
  have hcs:(cs.toList.toArray ++ vs.toList.toArray ++ Builtin.zeroCells (Value.agg zQ).cells (cap - (m + 1))) = cs ++ vs ++ Builtin.zeroCells zQ (cap - (m + 1)):=by simp [Value.cells]
  rw [hcs] at hr
  have hb:Below w.heap.size w (w.drew.alloc (.cells (cs ++ vs ++ Builtin.zeroCells zQ (cap - (m + 1))) 42)):=(rfB.drew).alloc lR _
  have hx:=Ext.of_below hb
  have hsz:(cs ++ vs).size = 5 * m + 5:=by rw [Array.size_append]; omega
  refine ⟨_,w.heap.size,cap,hr,.inr ⟨rfl,hb⟩,hge,_,heap_alloc_new w.drew _,?_,one_app (one_app h4 v3) (one_sub zQ_one (zero_sub zQ dE _)),fun j hj=>?_⟩
  ·simp [size_zeroCells,h3,hv5,zQ]; omega
  ·show El _ _ (5 * j) (j < m + 1) (upf F m x j)
   by_cases hjm:j = m
   ·subst hjm
    rw [upf_same]
    refine El.to (cs:=vs) (o:=5 * 0) e0 hx (fun _=>trivial) fun r hr=>?_
    rw [Array.getElem?_append_left oM,Array.getElem?_append_right oM,h3,show 5 * j + r - 5 * j = 5 * 0 + r by omega]
   ·rw [upf_other _ _ hjm]
    by_cases hjl:j < m
    ·refine El.to (cs:=cs) (o:=5 * j) (h5 j oM) hx (fun _=>hjl) fun r hr=>?_
     rw [Array.getElem?_append_left oM,Array.getElem?_append_left oM]
    ·refine El.to (cs:=Builtin.zeroCells zQ (cap - (m + 1))) (o:=5 * (j - (m + 1))) (V:=False) (El.nil w _ _ _ fun r hr=>zero_at _ _ r oM hr) hx (fun h=>oM) fun r hr=>?_
     rw [Array.getElem?_append_right oM,hsz,show 5 * j + r - (5 * m + 5) = 5 * (j - (m + 1)) + r by omega]
end Go.Proofs.YtffegeaflohfhaaGreatDoor
