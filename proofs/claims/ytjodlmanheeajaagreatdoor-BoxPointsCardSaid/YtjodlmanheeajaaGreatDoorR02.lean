import Derived.BigQuiet
import Derived.Deep.OwnRows
import Derived.Deep.QuietTactic
import Derived.Laws.CopyOwn
import Derived.Lib.Hide
import Derived.Outline
import Derived.Test.YtjodlmanheeajaaGreatDoorProg
import Derived.WalkKit
import Derived.WalkLawsBesides
import Derived.WalkSpells
import Derived.Test.YtjodlmanheeajaaGreatDoorR01
set_option linter.unusedVariables false
set_option linter.unusedSimpArgs false
set_option maxRecDepth 100000
set_option maxHeartbeats 8000000
namespace Go.Proofs.YtjodlmanheeajaaGreatDoor
open Go.RowKit
theorem kR {P:Prop} (h:P:=by kernel_rfl):P:=h
theorem sG {P:Prop} (h:P:=by simp [go_sem]):P:=h
theorem mS {P:Prop} (h:P:=by (simp [intOf]; omega)):P:=h
theorem bel {n:Nat} {w w':World} (h:Below n w w':=by (repeat (first | exact Below.refl _ _ | assumption | with_reducible refine Below.drew ?_ | with_reducible refine bT ?_ (below_alloc _ _) | with_reducible refine bT ?_ (below_drewN _ _) | with_reducible refine Below.setCell ?_ (by simp <;> omega) _ | refine bT ?_ (by assumption)))):Below n w w':=h
theorem hid {p:Prop} (h:p):Go.RowKit.Hid p:=h
theorem rfB {n:Nat} {w:World}:Below n w w:=Below.refl _ _
def Wn (w:World) (A:Option Addr) (n:Nat) (f:Nat -> Nat):Prop :=
 0 < n -> ∃ b off,A = some ⟨b,off,none⟩ /\ b < w.heap.size /\ ∀ j,j < n -> w.cell? ⟨b,off + j,none⟩ = some (.int .u32 (f j:Int))
section
variable {w w':World} {A:Option Addr} {n:Nat} {f:Nat -> Nat}
theorem Wn.below (h:Wn w A n f) (hb:Below w.heap.size w w'):Wn w' A n f:=fun hn=>by
 obtain ⟨b,off,hA,hlt,hc⟩:=h hn
 exact ⟨b,off,hA,lL hlt hb.size,fun j hj=>(hb.cell (p:=⟨b,off + j,none⟩) hlt).trans (hc j hj)⟩
theorem Wn.mono {m:Nat} (h:Wn w A n f) (hm:m <= n):Wn w A m f:=fun h0=>by
 obtain ⟨b,off,hA,hlt,hc⟩:=h oM
 exact ⟨b,off,hA,hlt,fun j hj=>hc j oM⟩
theorem Wn.congr {g:Nat -> Nat} (h:Wn w A n f) (he:∀ j,j < n -> f j = g j):Wn w A n g:=fun h0=>by
 obtain ⟨b,off,hA,hlt,hc⟩:=h h0
 exact ⟨b,off,hA,hlt,fun j hj=>by rw [<- he j hj]; exact hc j hj⟩
theorem Wn.none_ (w:World) (A:Option Addr) (f:Nat -> Nat):Wn w A 0 f:=fun h=>absurd h oM
theorem Wn.cut {b off k:Nat} (h:Wn w (some ⟨b,off,none⟩) n f) (hk:k <= n):Wn w (some ⟨b,off + k,none⟩) (n - k) (fun j=>f (k + j)):=fun h0=>by
 obtain ⟨b',off',hA,hlt,hc⟩:=h oM
 cases hA
 exact ⟨b,off + k,rfl,hlt,fun j hj=>by rw [Nat.add_assoc]; exact hc (k + j) oM⟩
end
def IsNat (w:World) (v:Value) (x:Nat):Prop:=∃ A c,v = .slice A (wl x) c /\ wl x <= c /\ Wn w A (wl x) (dg x)
section
variable {w w':World} {v:Value} {x:Nat}
theorem IsNat.below (h:IsNat w v x) (hb:Below w.heap.size w w'):IsNat w' v x:=by
 obtain ⟨A,c,rfl,hc,hw⟩:=h
 exact ⟨A,c,rfl,hc,hw.below hb⟩
theorem IsNat.mk {A:Option Addr} {n c:Nat} {f:Nat -> Nat} (h:Wn w A n f) (hf:Wd f n) (hm:Nm f n) (hc:n <= c):IsNat w (.slice A n c) (vs f n):=by
 refine ⟨A,c,?_,?_,?_⟩
 ·rw [wl_eq hf hm]
 ·rw [wl_eq hf hm]; exact hc
 ·rw [wl_eq hf hm]; exact h.congr (dg_vs hf)
theorem IsNat.mk_tl {A:Option Addr} {n c:Nat} {f:Nat -> Nat} (h:Wn w A n f) (hf:Wd f n) (hc:n <= c):IsNat w (.slice A (tl f n) c) (vs f n):=by
 have hl:=tl_le f n
 rw [<- vs_tl f n]
 exact IsNat.mk (h.mono hl) (hf.mono hl) (tl_nm f n) oM
theorem IsNat.zero (w:World) (A:Option Addr) (c:Nat):IsNat w (.slice A 0 c) 0:=⟨A,c,by rw [wl_zero],by rw [wl_zero]; omega,by rw [wl_zero]; exact Wn.none_ _ _ _⟩
theorem IsNat.ex (h:IsNat w v x):∃ A n c,v = .slice A n c /\ n = wl x:=by
 obtain ⟨A,c,rfl,_,_⟩:=h
 exact ⟨A,_,c,rfl,rfl⟩
end
def RetNat (w:World) (x:Nat) (e:Ending) (w':World):Prop:=∃ v,e = .returned v /\ IsNat w' v x /\ Below w.heap.size w w'
def Row (w:World) (g n:Nat) (f:Nat -> Nat):Prop :=
 ∃ cs:Array Value,w.heap[g]? = some (.cells cs 140 (0,0)) /\ cs.size = n /\ ∀ j,j < n -> cs[j]? = some (.int .u32 (f j:Int))
section
variable {w w':World} {g n:Nat} {f:Nat -> Nat}
theorem Row.lt (h:Row w g n f):g < w.heap.size:=by
 obtain ⟨cs,h,_⟩:=h
 rcases Nat.lt_or_ge g w.heap.size with hlt | hge
 ·exact hlt
 ·rw [Array.getElem?_eq_none hge] at h; cases h
theorem Row.cell (h:Row w g n f) {j:Nat} (hj:j < n):w.cell? ⟨g,j,none⟩ = some (.int .u32 (f j:Int)):=by
 obtain ⟨cs,h,hs,hc⟩:=h
 rw [cell_of_row w g j cs _ (0,0) h]
 exact hc j hj
theorem Row.frozen (h:Row w g n f) (j:Nat):w.frozen? ⟨g,j,none⟩ = false:=by
 obtain ⟨cs,h,_⟩:=h
 simp [World.frozen?,h]
theorem Row.set_ (h:Row w g n f) {i:Nat} (hi:i < n) (x:Nat):Row (w.setCell ⟨g,i,none⟩ (.int .u32 (x:Int))) g n (upd f i x):=by
 obtain ⟨cs,h,hs,hc⟩:=h
 refine ⟨cs.setIfInBounds i (.int .u32 (x:Int)),?_,by simp [hs],fun j hj=>?_⟩
 ·simp [World.setCell,Array.getElem?_modify,h]
 ·rw [Array.getElem?_setIfInBounds]
  by_cases hij:i = j
  ·subst hij
   rw [if_pos rfl,if_pos oM,upd_same]
  ·rw [if_neg hij,upd_other f x (fun e=>hij e.symm)]
   exact hc j hj
theorem Row.congr {f':Nat -> Nat} (h:Row w g n f) (he:∀ j,j < n -> f j = f' j):Row w g n f':=by
 obtain ⟨cs,h,hs,hc⟩:=h
 exact ⟨cs,h,hs,fun j hj=>by rw [<- he j hj]; exact hc j hj⟩
theorem Row.keep (h:Row w g n f) (hb:w'.heap[g]? = w.heap[g]?):Row w' g n f:=by
 obtain ⟨cs,h,hs,hc⟩:=h
 exact ⟨cs,hb.trans h,hs,hc⟩
theorem Row.below {B:Nat} (h:Row w g n f) (hb:Below B w w') (hg:g < B):Row w' g n f:=h.keep (hb.block g hg)
theorem Row.grown {row:Option Nat} (h:Row w g n f) (hb:w.grownBy w' row) (hg:some g ≠ row):Row w' g n f:=h.keep (hb.block g h.lt hg)
theorem Row.wn0 (h:Row w g n f):Wn w (some ⟨g,0,none⟩) n f :=
 fun _=>⟨g,0,rfl,h.lt,fun j hj=>by rw [Nat.zero_add]; exact h.cell hj⟩
theorem Row.new (w:World) (z:Value) (hz:z.cells = #[.int .u32 0]) (n:Nat):Row (w.alloc (.cells (madeCells z.cells n) 140)) w.heap.size n (fun _=>0):=by
 refine ⟨madeCells z.cells n,?_,size_madeCells _ _,fun j hj=>?_⟩
 ·show (w.heap.push _)[w.heap.size]? = _
  simp
 ·rw [hz]
  simp [madeCells,hj]
  rw [Nat.mod_one]
  rfl
end
theorem Wn.grown {w w':World} {A:Option Addr} {n:Nat} {f:Nat -> Nat} {row:Option Nat} (h:Wn w A n f) (hg:w.grownBy w' row) (hA:∀ a,A = some a -> some a.block ≠ row):Wn w' A n f:=fun hn=>by
 obtain ⟨b,off,rfl,hlt,hc⟩:=h hn
 exact ⟨b,off,rfl,lL hlt hg.size,fun j hj=>hg.cell (hc j hj) (show some b ≠ row from hA ⟨b,off,none⟩ rfl)⟩
theorem grown_refl (w:World) (row:Option Nat):w.grownBy w row:=⟨rfl,rfl,rfl,Nat.le_refl _,fun _ _ _=>rfl⟩
theorem grown_trans {a b c:World} {row:Option Nat} (h:a.grownBy b row) (k:b.grownBy c row):a.grownBy c row :=
 ⟨k.os.trans h.os,k.tape.trans h.tape,k.output.trans h.output,Nat.le_trans h.size k.size,fun i hi hr=>(k.block i (lL hi h.size) hr).trans (h.block i hi hr)⟩
theorem grown_drewN {a w:World} {row:Option Nat} (h:a.grownBy w row) (q:Nat):a.grownBy (w.drewN q) row:=⟨h.os,h.tape,h.output,h.size,h.block⟩
theorem grown_set (w:World) (g i:Nat) (v:Value):w.grownBy (w.setCell ⟨g,i,none⟩ v) (some g) :=
 ⟨rfl,rfl,rfl,by simp [World.setCell],fun k _ hk=>Below.heap_setCell w _ v k (fun e=>hk (by rw [e]))⟩
theorem below_alloc (w:World) (o:Obj):Below w.heap.size w (w.alloc o):=(Below.refl _ w).alloc lR o
theorem below_trans {a b c:World} (h:Below a.heap.size a b) (k:Below b.heap.size b c):Below a.heap.size a c:=h.trans (k.mono h.size)
theorem bT {a b c:World} (h:Below a.heap.size a b) (k:Below b.heap.size b c):Below a.heap.size a c:=below_trans h k
theorem below_drewN (w:World) (n:Nat):Below w.heap.size w (w.drewN n):=⟨rfl,rfl,rfl,Nat.le_refl _,fun _ _=>rfl⟩
theorem qadd_eq {P:Program} {f:FuncId} {args:Array Value} {w:World} {a n:Nat} {v:Value}
  (h:Calls P f args (w.drewN (a + n)) fun e w'=>e = .returned v /\ w.drewN (a + n) = w'):Calls P f args (w.drewN (a + n)) fun e w''=>e = .returned v /\ ∃ m,w'' = w.drewN (a + m) :=
 h.mono fun _ _ ⟨he,hm⟩=>⟨he,n,hm.symm⟩
theorem q0 {P:Program} {f:FuncId} {args:Array Value} {w:World} {n:Nat} {v:Value}
  (h:Calls P f args (w.drewN n) fun e w'=>e = .returned v /\ ∃ q,w' = (w.drewN n).drewN q):Calls P f args (w.drewN n) fun e w''=>e = .returned v /\ ∃ m,w'' = w.drewN m :=
 h.mono fun _ _ ⟨he,m,hm⟩=>⟨he,n + m,by rw [hm,World.drewN_drewN]⟩
theorem IsNat.drewN {w:World} {v:Value} {x:Nat} (h:IsNat w v x) (q:Nat):IsNat (w.drewN q) v x:=h
theorem or64 (a b:Nat) (ha:a < 4294967296) (hb:b < 4294967296):bits .or .u64 ((a:Int) * 4294967296) (b:Int) = ((b + a * 4294967296:Nat):Int):=by
 rw [bits_join .u64 64 dE (fun n h1 h2=>by rw [IntKind.wrap_u64]; omega) 32 _ _ oM oM oM oM oM oM]
 omega
def ordI (b:Bool):Int:=if b then -1 else 1
theorem order_any (b:Bool) (w:World):Calls Tryz.prog 154 #[.bool b] w fun e w'=>e = .returned (.int .i64 (ordI b)) /\ w = w':=by
 cases b <;>
 ·go_enter Tryz.func154,Tryz.ntmps154
  go_wp2
  go_ret
  exact ⟨rfl,rfl⟩
theorem trim_any (A:Option Addr) (n c:Nat) (f:Nat -> Nat) (w:World) (h:Wn w A n f) (hc:n <= c) (hn:n <= 1099511627776) :
  Calls Tryz.prog 148 #[.slice A n c] w fun e w'=>e = .returned (.slice A (tl f n) c) /\ w = w':=by
 have H:=hid h; clear h
 go_enter Tryz.func148,Tryz.ntmps148
 go_wp2
 go_loop [3] (fun i=>∃ k:Nat,k <= n /\ tl f k = tl f n /\ i = .int .i64 k) (fun i=>(intOf i).toNat)
 case atStart=>exact ⟨n,oM,rfl,rfl⟩
 case round =>
  obtain ⟨k,hk,ht,rfl⟩:=hrel
  have HT:=hid ht; clear ht
  rcases Nat.eq_zero_or_pos k with h0 | h0
  ·subst h0
   go_wp2
   go_ret
   exact ⟨by rw [<- HT.out]; rfl,rfl⟩
  ·obtain ⟨m,rfl⟩:∃ m,k = m + 1:=⟨k - 1,oM⟩
   obtain ⟨b,off,rfl,hb,hc1⟩:=H.out oM
   have hcell:=hc1 m oM
   clear hc1
   by_cases hf:f m = 0
   ·rw [hf] at hcell
    go_wp2
    go_round
    case rel=>exact ⟨m,oM,by rw [<- HT.out]; simp [tl,hf],by go_num⟩
    case measure=>simp [intOf]
   ·have hne:((f m:Int) == 0) = false:=sO
    have hfm:=HT.out
    rw [tl,if_neg hf] at hfm
    have HF:=hid hfm
    clear hfm hf
    go_wp2
    go_ret
    exact ⟨by rw [<- HF.out]; rfl,rfl⟩
theorem trim_nat (A:Option Addr) (n c:Nat) (f:Nat -> Nat) (w:World) (h:Wn w A n f) (hf:Wd f n) (hc:n <= c) (hn:n <= 1099511627776) :
  Calls Tryz.prog 148 #[.slice A n c] w fun e w'=>∃ v,e = .returned v /\ IsNat w v (vs f n) /\ w = w' :=
 (trim_any A n c f w h hc hn).mono fun _ _ ⟨he,hw⟩=>⟨_,he,IsNat.mk_tl h hf hc,hw⟩
theorem isOne_any (v:Value) (x:Nat) (w:World) (h:IsNat w v x) :
  Calls Tryz.prog 187 #[v] w fun e w'=>e = .returned (.bool (decide (x = 1))) /\ w = w':=by
 obtain ⟨A,c,rfl,hc,hw⟩:=h
 by_cases h1:wl x = 1
 ·have hx:=vs_dg_wl x
  rw [h1] at hc hw ⊢
  rw [h1,vs_one] at hx
  obtain ⟨b,off,rfl,hb,hcell⟩:=hw oM
  have hcell:=hcell 0 oM
  rw [hx,Nat.add_zero] at hcell
  clear hx h1 hw
  have hq:((x:Int) == 1) = decide (x = 1):=by rw [Bool.eq_iff_iff]; simp; omega
  go_enter Tryz.func187,Tryz.ntmps187
  go_wp2
  go_ret
  exact ⟨sP,rfl⟩
 ·have hx:x ≠ 1:=fun e=>h1 (by subst e; exact wl_one)
  have hd:(((wl x:Nat):Int) == 1) = false:=sO
  have hd2:decide (x = 1) = false:=by simp [hx]
  clear hw h1
  generalize wl x = n at *
  go_enter Tryz.func187,Tryz.ntmps187
  go_wp2
  go_ret
  exact ⟨by simp [hx],rfl⟩
theorem small_any (v:Value) (x:Nat) (w:World) (h:IsNat w v x) :
  Calls Tryz.prog 185 #[v] w fun e w'=>e = .returned (.tuple #[.int .u64 (if x < 18446744073709551616 then (x:Int) else 0),.bool (decide (x < 18446744073709551616))]) /\ ∃ q,w' = w.drewN q:=by
 obtain ⟨A,c,rfl,hc,hw⟩:=h
 have hx:=vs_dg_wl x
 by_cases h0:wl x = 0
 ·rw [h0] at hc hw ⊢
  rw [h0,vs_zero] at hx
  subst hx
  clear h0 hw
  go_enter Tryz.func185,Tryz.ntmps185
  go_wp2
  go_ret2
  exact ⟨sP,0,rfl⟩
 by_cases h1:wl x = 1
 ·rw [h1] at hc hw ⊢
  rw [h1,vs_one] at hx
  have hlt:=dg_lt x 0
  rw [hx] at hlt
  obtain ⟨b,off,rfl,hb,hcell⟩:=hw oM
  have hcell:=hcell 0 oM
  rw [hx,Nat.add_zero] at hcell
  clear hx h1 hw h0
  have hd:decide (x < 18446744073709551616) = true:=sO
  rw [if_pos oM,hd]
  clear hd
  go_enter Tryz.func185,Tryz.ntmps185
  go_wp2
  go_ret2
  exact ⟨rfl,0,rfl⟩
 by_cases h2:wl x = 2
 ·have hd:decide (x < 18446744073709551616) = true:=by simp [lt_of_wl_two (Nat.le_of_eq h2)]
  rw [if_pos (lt_of_wl_two (Nat.le_of_eq h2)),hd]
  rw [h2] at hc hw ⊢
  rw [h2,vs_two] at hx
  have hl0:=dg_lt x 0
  have hl1:=dg_lt x 1
  obtain ⟨b,off,rfl,hb,hcell⟩:=hw oM
  have hcell0:=hcell 0 oM
  have hcell1:=hcell 1 oM
  rw [Nat.add_zero] at hcell0
  generalize dg x 0 = a0 at *
  generalize dg x 1 = a1 at *
  clear h1 hw h0 h2 hcell hd
  have HX:=hid hx; clear hx
  go_enter Tryz.func185,Tryz.ntmps185
  go_wp2
  go_quiet (fail)
  go_wp2
  go_ret2
  exact ⟨by rw [<- HX.out,<- or64 a1 a0 hl1 hl0]; rfl,_,rfl⟩
 ·have hd0:(((wl x:Nat):Int) == 0) = false:=sO
  have hd1:(((wl x:Nat):Int) == 1) = false:=sO
  have hd2:(((wl x:Nat):Int) == 2) = false:=sO
  have hb:¬ x < 18446744073709551616:=fun h=>by have:=wl_le_two h; omega
  have hd:decide (x < 18446744073709551616) = false:=sO
  rw [if_neg hb,hd]
  clear hw h0 h1 h2 hx hb hd
  generalize wl x = n at *
  go_enter Tryz.func185,Tryz.ntmps185
  go_wp2
  go_ret2
  exact ⟨rfl,0,rfl⟩
def cmpN (x y:Nat):Int:=if x < y then -1 else if x = y then 0 else 1
theorem compare_any (v u:Value) (x y:Nat) (w:World) (hv:IsNat w v x) (hu:IsNat w u y) (hn:wl x <= 1099511627776) (hm:wl y <= 1099511627776) :
  Calls Tryz.prog 104 #[v,u] w fun e w'=>e = .returned (.int .i64 (cmpN x y)) /\ ∃ q,w' = w.drewN q:=by
 obtain ⟨A,c,rfl,hc,hw⟩:=hv
 obtain ⟨A',c',rfl,hc',hw'⟩:=hu
 by_cases hl:wl x = wl y
 ·have hx:=vs_dg_wl x
  have hy:=vs_dg_wl y
  rw [<- hl] at hc' hw' hy ⊢
  have hfx:=Wd_dg x (wl x)
  have hfy:=Wd_dg y (wl x)
  have hpost:∀ k,k < wl x -> (∀ j,k < j -> j < wl x -> dg x j = dg y j) -> dg x k ≠ dg y k -> ordI (decide (dg x k < dg y k)) = cmpN x y:=by
   intro k hk he hne
   unfold cmpN ordI
   by_cases hlt:dg x k < dg y k
   ·have:=vs_lt_of hfx hk hlt he
    rw [hx,hy] at this
    rw [decide_eq_true hlt,if_pos this]; rfl
   ·have:=vs_lt_of hfy hk (show dg y k < dg x k by omega) (fun j h1 h2=>(he j h1 h2).symm)
    rw [hx,hy] at this
    rw [decide_eq_false hlt,if_neg (show ¬ x < y by omega),if_neg (show ¬ x = y by omega)]; rfl
  have heq:(∀ j,j < wl x -> dg x j = dg y j) -> cmpN x y = 0:=by
   intro he
   have:x = y:=by rw [<- hx,<- hy]; exact vs_congr he
   subst this
   simp [cmpN]
  have HP:=hid hpost
  have HE:=hid heq
  have H:=hid hw
  have H':=hid hw'
  have hfx:=hid hfx
  have hfy:=hid hfy
  clear hpost heq hw hw' hx hy hl hm
  generalize wl x = n at *
  go_enter Tryz.func104,Tryz.ntmps104
  go_wp2
  go_loopw [5] (fun i wr=>∃ k q:Nat,k <= n /\ (∀ j,k <= j -> j < n -> dg x j = dg y j) /\ i = .int .i64 ((k:Int) - 1) /\ wr = w.drewN q) (fun i _=>(intOf i + 1).toNat)
  case atStart=>exact ⟨n,0,oM,fun j h1 h2=>oM,rfl,rfl⟩
  case round =>
   obtain ⟨k,q,hk,ht,rfl,rfl⟩:=hrel
   have HT:=hid ht; clear ht
   rcases Nat.eq_zero_or_pos k with h0 | h0
   ·subst h0
    go_wp2
    go_ret
    exact ⟨by rw [HE.out (fun j hj=>HT.out j oM hj)]; rfl,q,rfl⟩
   ·obtain ⟨m,rfl⟩:∃ m,k = m + 1:=⟨k - 1,oM⟩
    obtain ⟨b,off,rfl,hb,hc1⟩:=H.out oM
    obtain ⟨b',off',rfl,hb',hc1'⟩:=H'.out oM
    have hcell:=hc1 m oM
    have hcell':=hc1' m oM
    have hp:=HP.out m oM (fun j h1 h2=>HT.out j oM h2)
    have HPP:=hid hp
    have hnext:dg x m = dg y m -> ∀ j,m <= j -> j < n -> dg x j = dg y j:=fun he j h1 h2=>by
     by_cases hj:j = m
     ·subst hj; exact he
     ·exact HT.out j oM h2
    have HN:=hid hnext
    clear hc1 hc1' hp hnext
    generalize dg x m = a at *
    generalize dg y m = a' at *
    by_cases hne:a = a'
    ·subst hne
     go_wp2
     go_quiet (fail)
     go_wp2
     go_roundw
     case rel=>exact ⟨m,_,oM,HN.out trivial,by go_num,rfl⟩
     case measure=>simp [intOf]
    ·have hq:(((a:Nat):Int) != (a':Int)) = true:=sO
     have hlt:(decide ((a:Int) < (a':Int))) = decide (a < a'):=sP
     go_wp2
     go_quiet (fail)
     go_wp2
     go_quiet ((go_at_call 154; exact qadd_eq (order_any _ _)))
     go_wp2
     go_ret
     exact ⟨by rw [<- HPP.out hne]; rfl,by simp only [World.drewN_drewN]; exact ⟨_,rfl⟩⟩
 ·have hne:(((wl x:Nat):Int) != ((wl y:Nat):Int)) = true:=sO
  have hfin:cmpN x y = ordI (decide (wl x < wl y)):=by
   unfold cmpN ordI
   by_cases h:x < y
   ·have:=wl_mono (Nat.le_of_lt h)
    rw [if_pos h,if_pos sO]
   ·have:=wl_mono (Nat.le_of_not_lt h)
    rw [if_neg h,if_neg (fun e=>hl (by rw [e])),if_neg sO]
  have HF:=hid hfin
  clear hfin hw hw' hl
  generalize wl x = n at *
  generalize wl y = n' at *
  go_enter Tryz.func104,Tryz.ntmps104
  go_wp2_with (go_at_call 154; refine (order_any _ _).mono ?_; rintro e w' ⟨rfl,rfl⟩)
  go_ret
  exact ⟨by rw [HF.out]; rfl,0,rfl⟩
theorem add32_any (x y c:Nat) (w:World) (hx:x < 4294967296) (hy:y < 4294967296) (hc:c <= 1) :
  Calls Tryz.prog 230 #[.int .u32 (x:Int),.int .u32 (y:Int),.int .u32 (c:Int)] w fun e w' =>
   ∃ s k:Nat,e = .returned (.tuple #[.int .u32 (s:Int),.int .u32 (k:Int)]) /\ s + k * 4294967296 = x + y + c /\ s < 4294967296 /\ k <= 1 /\ w = w':=by
 have fin:∀ (e:Ending) (W':World),(e = .returned (.tuple #[.int .u32 (((x:Int) + y + c) % 4294967296),.int .u32 (((x:Int) + y + c) / 4294967296)]) /\ w = W') ->
   ∃ s k:Nat,e = .returned (.tuple #[.int .u32 (s:Int),.int .u32 (k:Int)]) /\ s + k * 4294967296 = x + y + c /\ s < 4294967296 /\ k <= 1 /\ w = W' :=
  fun e W' ⟨he,hw⟩=>⟨(x + y + c) % 4294967296,(x + y + c) / 4294967296,by rw [he]; rfl,oM,oM,oM,hw⟩
 refine Calls.mono ?_ fin
 clear fin
 go_enter Tryz.func230,Tryz.ntmps230
 go_wp2
 go_ret2
 exact ⟨rfl,rfl⟩
theorem top32 {v:Nat} (h:v < 4294967296):v / 2147483648 = if v.testBit 31 then 1 else 0:=by
 rw [Nat.testBit_eq_decide_div_mod_eq]
 have:(2:Nat) ^ 31 = 2147483648:=rfl
 rw [this]
 by_cases h1:v / 2147483648 % 2 = 1
 ·rw [if_pos (by simpa using h1)]; omega
 ·rw [if_neg (by simpa using h1)]; omega
theorem bit31 {v:Nat} (h:v < 4294967296):v.testBit 31 = decide (2147483648 <= v):=by
 rw [Nat.testBit_eq_decide_div_mod_eq]
 have:(2:Nat) ^ 31 = 2147483648:=rfl
 rw [this,Bool.eq_iff_iff]
 simp
 omega
theorem sub_borrow (x y d b:Nat) (hx:x < 4294967296) (hy:y < 4294967296) (hd:d < 4294967296) (c:Nat) (hc:c <= 1) (hb:b <= 1) (he:d + y + c = x + b * 4294967296) :
  bits .or .u32 (bits .and .u32 (bits .xor .u32 IntKind.u32.max (x:Int)) (y:Int)) (bits .and .u32 (bits .xor .u32 IntKind.u32.max (bits .xor .u32 (x:Int) (y:Int))) (d:Int)) / 2147483648 = (b:Int):=by
 have e0:IntKind.u32.max = ((4294967295:Nat):Int):=rfl
 have b1:4294967295 ^^^ x < 4294967296:=Nat.xor_lt_two_pow (n:=32) oM oM
 have b2:x ^^^ y < 4294967296:=Nat.xor_lt_two_pow (n:=32) oM oM
 have b3:4294967295 ^^^ (x ^^^ y) < 4294967296:=Nat.xor_lt_two_pow (n:=32) oM oM
 have b4:(4294967295 ^^^ x) &&& y < 4294967296:=Nat.and_lt_two_pow (n:=32) _ oM
 have b5:(4294967295 ^^^ (x ^^^ y)) &&& d < 4294967296:=Nat.and_lt_two_pow (n:=32) _ oM
 rw [e0,u32_xor_nat _ _ oM hx,u32_xor_nat _ _ hx hy,u32_xor_nat _ _ oM b2,u32_and_nat _ _ b1 hy,u32_and_nat _ _ b3 hd,u32_or_nat _ _ b4 b5]
 have b6:((4294967295 ^^^ x) &&& y) ||| ((4294967295 ^^^ (x ^^^ y)) &&& d) < 4294967296:=Nat.or_lt_two_pow (n:=32) b4 b5
 have:=top32 b6
 rw [Nat.testBit_or,Nat.testBit_and,Nat.testBit_and,Nat.testBit_xor,Nat.testBit_xor,Nat.testBit_xor,bit31 hx,bit31 hy,bit31 hd,bit31 (v:=4294967295) oM] at this
 have h2:(((4294967295 ^^^ x) &&& y) ||| ((4294967295 ^^^ (x ^^^ y)) &&& d)) / 2147483648 = b:=by
  rw [this]
  by_cases h1:2147483648 <= x <;> by_cases h2:2147483648 <= y <;> by_cases h3:2147483648 <= d <;> simp [h1,h2,h3] <;> omega
 omega
theorem sub32_any (x y c:Nat) (w:World) (hx:x < 4294967296) (hy:y < 4294967296) (hc:c <= 1) :
  Calls Tryz.prog 240 #[.int .u32 (x:Int),.int .u32 (y:Int),.int .u32 (c:Int)] w fun e w' =>
   ∃ d b:Nat,e = .returned (.tuple #[.int .u32 (d:Int),.int .u32 (b:Int)]) /\ d + y + c = x + b * 4294967296 /\ d < 4294967296 /\ b <= 1 /\ w = w':=by
 obtain ⟨d,b,he,hd,hb⟩:∃ d b:Nat,d + y + c = x + b * 4294967296 /\ d < 4294967296 /\ b <= 1:=by
  by_cases h:x < y + c
  ·exact ⟨x + 4294967296 - y - c,1,oM,oM,oM⟩
  ·exact ⟨x - y - c,0,oM,oM,oM⟩
 have hbw:=sub_borrow x y d b hx hy hd c hc hb he
 have hdd:((x:Int) - y - c) % 4294967296 = (d:Int):=oM
 have fin:∀ (e:Ending) (W':World),(e = .returned (.tuple #[.int .u32 (d:Int),.int .u32 (b:Int)]) /\ w = W') ->
   ∃ d b:Nat,e = .returned (.tuple #[.int .u32 (d:Int),.int .u32 (b:Int)]) /\ d + y + c = x + b * 4294967296 /\ d < 4294967296 /\ b <= 1 /\ w = W' :=
  fun e W' ⟨h1,hw⟩=>⟨d,b,h1,he,hd,hb,hw⟩
 refine Calls.mono ?_ fin
 clear fin
 have HB:=hid hbw
 have HD:=hid hdd
 clear hbw hdd he
 go_enter Tryz.func240,Tryz.ntmps240
 go_wp2
 go_ret2
 refine ⟨?_,rfl⟩
 rw [<- HB.out,<- HD.out]
 rfl
theorem div32_any (h l y:Nat) (w:World) (hh:h < y) (hl:l < 4294967296) (hy:y < 4294967296) :
  Calls Tryz.prog 217 #[.int .u32 (h:Int),.int .u32 (l:Int),.int .u32 (y:Int)] w fun e w' =>
   ∃ a r:Nat,e = .returned (.tuple #[.int .u32 (a:Int),.int .u32 (r:Int)]) /\ a * y + r = h * 4294967296 + l /\ r < y /\ a < 4294967296 /\ ∃ q,w' = w.drewN q:=by
 have hz:h * 4294967296 + l < y * 4294967296:=oM
 have hor:bits .or .u64 ((h:Int) * 4294967296) (l:Int) = ((h * 4294967296 + l:Nat):Int):=by rw [or64 h l oM hl]; omega
 have ha:(h * 4294967296 + l) / y < 4294967296:=Nat.div_lt_of_lt_mul oM
 have hr:(h * 4294967296 + l) % y < y:=Nat.mod_lt _ oM
 have he:(h * 4294967296 + l) / y * y + (h * 4294967296 + l) % y = h * 4294967296 + l:=Nat.div_add_mod' _ _
 have hzz:h * 4294967296 + l < 18446744073709551616:=oM
 generalize h * 4294967296 + l = z at *
 have fin:∀ (e:Ending) (W':World),(e = .returned (.tuple #[.int .u32 ((z / y:Nat):Int),.int .u32 ((z % y:Nat):Int)]) /\ ∃ q,W' = w.drewN q) ->
   ∃ a r:Nat,e = .returned (.tuple #[.int .u32 (a:Int),.int .u32 (r:Int)]) /\ a * y + r = z /\ r < y /\ a < 4294967296 /\ ∃ q,W' = w.drewN q :=
  fun e W' ⟨h1,hw⟩=>⟨_,_,h1,he,hr,ha,hw⟩
 refine Calls.mono ?_ fin
 clear fin he
 have hq:IntKind.u64.wrap ((z:Int) / (y:Int)) % 4294967296 = ((z / y:Nat):Int):=by rw [<- Int.natCast_ediv,IntKind.wrap_u64]; revert ha; generalize z / y = t; intro ha; omega
 have HQ:=hid hq; clear hq
 have hne:((y:Int) != 0) = true:=sO
 have hn0:((y:Int) == 0) = false:=sO
 have hle:decide (y <= h) = false:=sO
 go_enter Tryz.func217,Tryz.ntmps217
 go_wp2
 go_quiet (fail)
 go_wp2
 go_ret2
 exact ⟨by rw [<- HQ.out]; rfl,_,rfl⟩
theorem fromUint_any (x:Nat) (w:World) (hx:x < 18446744073709551616) :
  Calls Tryz.prog 146 #[.int .u64 (x:Int)] w (RetNat w x):=by
 have hd0:dg x 0 = x % 4294967296:=dg_zero x
 have hd1:dg x 1 = x / 4294967296:=by rw [dg_one]; omega
 have hW:Wn (w.alloc (.cells #[.int .u32 ((x:Int) % 4294967296),.int .u32 ((x:Int) / 4294967296)] 140)) (some ⟨w.heap.size,0,none⟩) 2 (dg x):=by
  refine fun _=>⟨_,_,rfl,sP,fun j hj=>?_⟩
  rcases (show j = 0 ∨ j = 1 by omega) with rfl | rfl
  ·rw [hd0]; simp
  ·rw [hd1]; simp
 have hx2:vs (dg x) 2 = x:=by rw [vs_dg]; exact Nat.mod_eq_of_lt oM
 have H:=hid hW
 have HX:=hid hx2
 clear hW hd0 hd1 hx2
 go_enter Tryz.func146,Tryz.ntmps146
 go_wp2_with (go_at_call 148; refine (trim_nat _ _ _ (dg x) _ H.out (Wd_dg _ _) oM oM).mono ?_; rintro e w' ⟨v,rfl,hv,rfl⟩)
 go_ret
 exact ⟨v,rfl,by rw [HX.out] at hv; exact hv,below_alloc _ _⟩
theorem length0 (w:World) (A:Option Addr) (c:Nat):Calls Tryz.prog 149 #[.slice A 0 c] w fun e w'=>e = .returned (.int .i64 0) /\ w = w':=by
 go_enter Tryz.func149,Tryz.ntmps149
 go_wp2
 go_ret
 exact ⟨rfl,rfl⟩
theorem Wd.upd {f:Nat -> Nat} {m:Nat} (h:Wd f m) (i:Nat) {x:Nat} (hx:x < 4294967296):Wd (upd f i x) m:=fun j hj=>by
 unfold Go.Proofs.YtjodlmanheeajaaGreatDoor.upd
 split
 ·exact hx
 ·exact h j hj
theorem vs_upd_off (f:Nat -> Nat) (off k x:Nat):vs (fun j=>upd f (off + k) x (off + j)) k = vs (fun j=>f (off + j)) k :=
 vs_congr fun j hj=>upd_other f x oM
theorem inc_step {f f' fy:Nat -> Nat} {off k s kk cc:Nat} (hv:vs (fun j=>f' (off + j)) k + cc * 4294967296 ^ k = vs (fun j=>f (off + j)) k + vs fy k)
  (hs:s + kk * 4294967296 = f' (off + k) + fy k + cc) (hk:f' (off + k) = f (off + k)) :
  vs (fun j=>upd f' (off + k) s (off + j)) (k + 1) + kk * 4294967296 ^ (k + 1) = vs (fun j=>f (off + j)) (k + 1) + vs fy (k + 1):=by
 rw [vs_succ,vs_succ,vs_succ,vs_upd_off,upd_same,Nat.pow_succ]
 rw [hk] at hs
 grind
theorem inc_step0 {f f':Nat -> Nat} {off k s kk cc t:Nat} (hv:vs (fun j=>f' (off + j)) k + cc * 4294967296 ^ k = vs (fun j=>f (off + j)) k + t)
  (hs:s + kk * 4294967296 = f' (off + k) + 0 + cc) (hk:f' (off + k) = f (off + k)) :
  vs (fun j=>upd f' (off + k) s (off + j)) (k + 1) + kk * 4294967296 ^ (k + 1) = vs (fun j=>f (off + j)) (k + 1) + t:=by
 rw [vs_succ,vs_succ,vs_upd_off,upd_same,Nat.pow_succ]
 rw [hk] at hs
 grind
theorem inc_end {f f':Nat -> Nat} {off n k t:Nat} (hk:k <= n) (hv:vs (fun j=>f' (off + j)) k = vs (fun j=>f (off + j)) k + t)
  (he:∀ j,off + k <= j -> f' j = f j):vs (fun j=>f' (off + j)) n = vs (fun j=>f (off + j)) n + t:=by
 obtain ⟨r,rfl⟩:∃ r,n = k + r:=⟨n - k,oM⟩
 rw [vs_add,vs_add,hv,vs_congr (f:=fun j=>f' (off + (k + j))) (g:=fun j=>f (off + (k + j))) (fun j _=>he _ oM)]
 omega
theorem increase_any (g off n c m:Nat) (f:Nat -> Nat) (A:Option Addr) (ny cy:Nat) (fy:Nat -> Nat) (w:World)
  (hr:Row w g m f) (hf:Wd f m) (hon:off + n <= m) (hy:Wn w A ny fy) (hfy:Wd fy ny) (hA:0 < ny -> ∀ a,A = some a -> a.block ≠ g) (hm:m <= 1099511627776)
  (hlt:vs (fun j=>f (off + j)) n + vs fy ny < 4294967296 ^ n) (hny:ny <= n) :
  Calls Tryz.prog 242 #[.slice (some ⟨g,off,none⟩) n c,.slice A ny cy] w fun e w'=>e = .returned (.tuple #[]) /\ ∃ f',Row w' g m f' /\ Wd f' m /\
   (∀ j,j < off ∨ off + n <= j -> f' j = f j) /\ vs (fun j=>f' (off + j)) n = vs (fun j=>f (off + j)) n + vs fy ny /\ w.grownBy w' (some g):=by
 have HY:=hid hy; clear hy
 have HA:=hid hA; clear hA
 have HL:=hid hlt; clear hlt
 have HR:=hid hr; clear hr
 go_enter Tryz.func242,Tryz.ntmps242
 go_wp2
 go_loopw [4,10] (fun cv i wr=>∃ k cc:Nat,k <= ny /\ i = .int .i64 k /\ cv = .int .u32 cc /\ cc <= 1 /\ ∃ f',Row wr g m f' /\ Wd f' m /\ (∀ j,j < off ∨ off + k <= j -> f' j = f j) /\
   vs (fun j=>f' (off + j)) k + cc * 4294967296 ^ k = vs (fun j=>f (off + j)) k + vs fy k /\ w.grownBy wr (some g)) (fun _ i _=>ny - (intOf i).toNat)
 case atStart=>exact ⟨0,0,oM,rfl,rfl,oM,f,HR.out,hf,fun _ _=>rfl,by simp [vs_zero],grown_refl _ _⟩
 case round =>
  obtain ⟨k,cc,hk,rfl,rfl,hcc,f',hrow,hfw,hkeep,hv,hg⟩:=hrel
  have HV:=hid hv; clear hv
  have HK:=hid hkeep; clear hkeep
  have HG:=hid hg; clear hg
  have HRO:=hid hrow; clear hrow
  by_cases hlt:k < ny
  ·obtain ⟨b,o2,rfl,hb,hc1⟩:=(HY.out.grown HG.out (fun a ha=>by have:=HA.out oM a ha; simp; omega)) oM
   have hcell:=hc1 k hlt
   have hz:=HRO.out.cell (j:=off + k) oM
   have hzf:=HRO.out.frozen (off + k)
   clear hc1
   have hw1:=hfy k hlt
   have hw2:=hfw (off + k) oM
   go_wp2_with (go_at_call 230; refine (add32_any _ _ _ _ hw2 hw1 hcc).mono ?_; rintro e w' ⟨s,kk,rfl,hs,hs1,hkk,rfl⟩; have HS:=hid hs; clear hs)
   go_roundw
   case rel=>exact ⟨k + 1,kk,oM,by go_num,rfl,hkk,upd f' (off + k) s,HRO.out.set_ oM s,hfw.upd _ hs1,fun j hj=>by rw [upd_other _ _ oM]; exact HK.out j oM,inc_step HV.out HS.out (HK.out _ oM),grown_trans HG.out (grown_set _ _ _ _)⟩
   case measure=>exact mS
  ·obtain rfl:k = ny:=oM
   go_wp2_with fail
   go_loopw [4,7] (fun cv i wr=>∃ k2 cc:Nat,k <= k2 /\ k2 <= n /\ i = .int .i64 k2 /\ cv = .int .u32 cc /\ cc <= 1 /\ ∃ f',Row wr g m f' /\ Wd f' m /\ (∀ j,j < off ∨ off + k2 <= j -> f' j = f j) /\
     vs (fun j=>f' (off + j)) k2 + cc * 4294967296 ^ k2 = vs (fun j=>f (off + j)) k2 + vs fy k /\ w.grownBy wr (some g)) (fun _ i _=>n - (intOf i).toNat)
   case atStart=>exact ⟨k,cc,oM,oM,rfl,rfl,hcc,f',HRO.out,hfw,HK.out,HV.out,HG.out⟩
   case round =>
    clear HV HK HG HRO hfw hcc hlt
    obtain ⟨k2,cc,hk1,hk2,rfl,rfl,hcc,f',hrow,hfw,hkeep,hv,hg⟩:=hrel
    have HV:=hid hv; clear hv
    have HK:=hid hkeep; clear hkeep
    have HG:=hid hg; clear hg
    have HRO:=hid hrow; clear hrow
    rcases (show cc = 0 ∨ cc = 1 by omega) with rfl | rfl
    ·go_wp2_with fail
     go_end0
     exact ⟨rfl,f',HRO.out,hfw,fun j hj=>HK.out j oM,inc_end hk2 (by have:=HV.out; omega) (fun j hj=>HK.out j oM),HG.out⟩
    ·have hlt2:k2 < n:=by
      rcases Nat.lt_or_ge k2 n with h | h
      ·exact h
      ·obtain rfl:k2 = n:=oM
       have:=HV.out
       have:=HL.out
       omega
     have hz:=HRO.out.cell (j:=off + k2) oM
     have hzf:=HRO.out.frozen (off + k2)
     have hw2:=hfw (off + k2) oM
     go_wp2_with (go_at_call 230; refine (add32_any _ 0 _ _ hw2 oM hcc).mono ?_; rintro e w' ⟨s,kk,rfl,hs,hs1,hkk,rfl⟩; have HS:=hid hs; clear hs)
     go_roundw
     case rel=>exact ⟨k2 + 1,kk,oM,oM,by go_num,rfl,hkk,upd f' (off + k2) s,HRO.out.set_ oM s,hfw.upd _ hs1,fun j hj=>by rw [upd_other _ _ oM]; exact HK.out j oM,inc_step0 HV.out HS.out (HK.out _ oM),grown_trans HG.out (grown_set _ _ _ _)⟩
     case measure=>exact mS
def cpy (f:Nat -> Nat) (off:Nat) (f':Nat -> Nat) (k:Nat):Nat -> Nat:=fun j=>if off <= j /\ j < off + k then f' (j - off) else f j
theorem info_u32:(Tryz.prog.info? 140).map (·.size) = some 1:=kR
theorem setRow_grown (w:World) (g:Nat) (cs:Array Value):w.grownBy (w.setRow g cs) (some g) :=
 ⟨rfl,rfl,rfl,by simp [World.setRow],fun k _ hk=>by
  show (w.heap.modify g _)[k]? = _
  rw [Array.getElem?_modify,if_neg (fun e=>hk (by rw [e]))]⟩
theorem copy_run (w:World) (g off dn dc sn sc m k:Nat) (A:Option Addr) (f f':Nat -> Nat) (hr:Row w g m f) (hw:Wn w A k f') (hk:k = min sn dn) (hfit:off + k <= m) :
  ∃ w',(Builtin.copy_ #[45,45] 3 #[.slice (some ⟨g,off,none⟩) dn dc,.slice A sn sc]).run Tryz.prog w = .ok (.int .i64 (k:Int)) w' /\
   Row w' g m (cpy f off f' k) /\ w.grownBy w' (some g):=by
 rcases Nat.eq_zero_or_pos k with h0 | h0
 ·subst h0
  refine ⟨w,?_,hr.congr fun j _=>by unfold cpy; rw [if_neg oM],grown_refl _ _⟩
  exact run_copy_none (P:=Tryz.prog) w 45 45 3 140 _ A dn dc sn sc Tryz.underlying45 info_u32 hk.symm
 obtain ⟨cs,hg,hsz,hc⟩:=hr
 obtain ⟨b,o2,rfl,hlt,hcell⟩:=hw h0
 have hlen:((List.range k).map fun j=>Value.int .u32 (f' j:Int)).length = k:=sP
 have hrun:=run_copy_row Tryz.prog w 45 45 3 140 g off dn dc ⟨b,o2,none⟩ sn sc cs 140 ((List.range k).map fun j=>Value.int .u32 (f' j:Int)) Tryz.underlying45 info_u32 hg (by rw [hlen]; exact hk) ?_ (by rw [hlen]; omega) ?_
 ·rw [hlen] at hrun
  refine ⟨_,hrun,⟨_,setRow_heap w g _ _ _ _ hg,?_,fun j hj=>?_⟩,setRow_grown _ _ _⟩
  ·simp; omega
  ·rw [List.getElem?_toArray]
   unfold cpy
   by_cases h1:j < off
   ·rw [List.append_assoc,List.getElem?_append_left sO,List.getElem?_take,if_pos h1,if_neg oM]
    simpa using hc j hj
   ·rw [List.append_assoc,List.getElem?_append_right sO]
    have e1:(cs.toList.take off).length = off:=sO
    rw [e1]
    by_cases h2:j < off + k
    ·rw [List.getElem?_append_left (by rw [hlen]; omega),List.getElem?_map,List.getElem?_range oM,if_pos oM]
     rfl
    ·rw [List.getElem?_append_right (by rw [hlen]; omega),hlen,List.getElem?_drop,if_neg oM]
     rw [show off + k + (j - off - k) = j by omega]
     simpa using hc j hj
 ·intro j v hv
  rw [List.getElem?_map] at hv
  have hj:j < k:=by
   rcases Nat.lt_or_ge j k with h1 | h1
   ·exact h1
   ·rw [List.getElem?_eq_none (by simpa using h1)] at hv; cases hv
  rw [List.getElem?_range hj] at hv
  cases hv
  rw [Addr.add_lit]
  exact hcell j oM
 ·intro v hv
  obtain ⟨j,_,rfl⟩:=List.mem_map.1 hv
  rfl
def zrow (n:Nat):Obj:=.cells (madeCells #[.int .u32 0] n) 140
theorem info_u32z:(Tryz.prog.info? 140).map (fun i=>(i.zero,i.size,i.bytes)) = some (some (.int .u32 0),1,4):=kR
theorem make_nat (n:Nat) (hn:n <= 1099511627776) (w:World):(Instr.makeSlice 45 (.int .i64 (n:Int)) (.int .i64 (n:Int))).run Tryz.prog w = .ok (.slice (some ⟨w.heap.size,0,none⟩) n n) (w.alloc (zrow n)) :=
 run_make_row' 45 140 (.int .u32 0) 4 Tryz.underlying45 info_u32z rfl .i64 .i64 n oM oM w
theorem make_nat1 (n:Nat) (hn:n < 1099511627776) (w:World):(Instr.makeSlice 45 (.int .i64 ((n:Int) + 1)) (.int .i64 ((n:Int) + 1))).run Tryz.prog w = .ok (.slice (some ⟨w.heap.size,0,none⟩) (n + 1) (n + 1)) (w.alloc (zrow (n + 1))) :=
 make_nat (n + 1) oM w
theorem Row.zrow (w:World) (n:Nat):Row (w.alloc (zrow n)) w.heap.size n (fun _=>0):=Row.new w (.int .u32 0) rfl n
theorem Wd_zero (n:Nat):Wd (fun _=>0) n:=fun _ _=>show (0:Nat) < 4294967296 by omega
theorem cpy_zero {f':Nat -> Nat} {k:Nat} (h:Wd f' k) (n:Nat):Wd (cpy (fun _=>0) 0 f' k) n:=fun j _=>by
 unfold cpy
 split
 ·exact h _ oM
 ·show (0:Nat) < 4294967296; omega
theorem vs_cpy_zero {f':Nat -> Nat} {k n:Nat} (hk:k <= n):vs (cpy (fun _=>0) 0 f' k) n = vs f' k:=by
 rw [vs_drop hk (fun j h1 h2=>by unfold cpy; rw [if_neg oM])]
 exact vs_congr fun j hj=>by unfold cpy; rw [if_pos oM,Nat.sub_zero]
set_option maxRecDepth 100000 in
theorem add_ge (v u:Value) (x y:Nat) (w:World) (hv:IsNat w v x) (hu:IsNat w u y) (hl:wl y <= wl x) (hn:wl x < 1099511627776) (h0:0 < wl y) :
  Calls Tryz.prog 234 #[v,u] w (RetNat w (x + y)):=by
 have hsum:vs (dg x) (wl x) + vs (dg y) (wl y) < 4294967296 ^ (wl x + 1):=by
  rw [vs_dg_wl,vs_dg_wl]
  have h1:=lt_wl x
  have h2:=lL (lt_wl y) (pow_mono (show wl y <= wl x by omega))
  rw [Nat.pow_succ]
  generalize 4294967296 ^ wl x = p at *
  omega
 have hfin:vs (dg x) (wl x) + vs (dg y) (wl y) = x + y:=by rw [vs_dg_wl,vs_dg_wl]
 have hws:=Wd_dg y (wl y)
 have hwl:=Wd_dg x (wl x)
 have hsL:=hid (hv.below (Below.refl _ w))
 have hsU:=hid (hu.below (Below.refl _ w))
 obtain ⟨A,c,rfl,hc,hw⟩:=hv
 obtain ⟨A',c',rfl,hc',hw'⟩:=hu
 have H:=hid hw
 have H':=hid hw'
 have HF:=hid hfin
 have HS:=hid hsum
 have HW:=hid hws
 have HWL:=hid hwl
 clear hw hw' hfin hsum hws hwl hsL hsU
 have hmk:=make_nat1 (wl x) hn
 have hz0:(((wl y:Nat):Int) == 0) = false:=sO
 generalize hnL:wl x = nL at *
 generalize hnS:wl y = nS at *
 clear hnL hnS
 obtain ⟨w1,hcp,hr1,hg1⟩:=copy_run (w.alloc (zrow (nL + 1))) w.heap.size 0 (nL + 1) (nL + 1) nL c (nL + 1) nL A (fun _=>0) (dg x) (Row.zrow w (nL + 1)) (H.out.below (below_alloc _ _)) oM oM
 have hb1:Below w.heap.size w w1:=(below_alloc w _).grown hg1 sP (fun k hk=>by cases hk; exact Nat.le_refl _)
 go_enter Tryz.func234,Tryz.ntmps234
 go_wp2_with fail
 have HR:=hid hr1
 have HB:=hid hb1
 clear hr1 hb1 hg1
 refine (increase_any w.heap.size 0 (nL + 1) (nL + 1) (nL + 1) (cpy (fun _=>0) 0 (dg x) nL) A' nS c' (dg y) w1 HR.out (cpy_zero HWL.out _) oM (H'.out.below HB.out) HW.out ?_ oM ?_ oM).mono ?_
 ·intro _ a ha
  obtain ⟨b,o,rfl,hlt,_⟩:=H'.out h0
  cases ha
  simp; omega
 ·have e1:=vs_cpy_zero (f':=dg x) (k:=nL) (n:=nL + 1) oM
  simp only [Nat.zero_add]
  rw [e1]
  exact HS.out
 rintro e w2 ⟨rfl,f2,hr2,hf2,_,hv2,hg2⟩
 have e1:=vs_cpy_zero (f':=dg x) (k:=nL) (n:=nL + 1) oM
 simp only [Nat.zero_add] at hv2
 rw [e1,HF.out] at hv2
 have HV:=hid hv2
 have HR2:=hid hr2
 have HG:=hid hg2
 clear hv2 hr2 hg2 e1
 go_wp2_with fail
 refine (trim_nat _ _ _ f2 _ HR2.out.wn0 hf2 oM oM).mono ?_
 rintro e w3 ⟨vv,rfl,hvv,rfl⟩
 have HVV:=hid hvv
 clear hvv
 go_wp2
 go_ret
 exact ⟨vv,rfl,by rw [<- HV.out]; exact HVV.out,HB.out.grown HG.out HB.out.size (fun k hk=>by cases hk; exact Nat.le_refl _)⟩
set_option maxRecDepth 100000 in
theorem add_lt (v u:Value) (x y:Nat) (w:World) (hv:IsNat w v x) (hu:IsNat w u y) (hl:wl x < wl y) (hn:wl y < 1099511627776) (h0:0 < wl x) :
  Calls Tryz.prog 234 #[v,u] w (RetNat w (x + y)):=by
 have hsum:vs (dg y) (wl y) + vs (dg x) (wl x) < 4294967296 ^ (wl y + 1):=by
  rw [vs_dg_wl,vs_dg_wl]
  have h1:=lt_wl y
  have h2:=lL (lt_wl x) (pow_mono (show wl x <= wl y by omega))
  rw [Nat.pow_succ]
  generalize 4294967296 ^ wl y = p at *
  omega
 have hfin:vs (dg y) (wl y) + vs (dg x) (wl x) = x + y:=by simp only [vs_dg_wl,Nat.add_comm]
 have hws:=Wd_dg x (wl x)
 have hwl:=Wd_dg y (wl y)
 have hsL:=hid (hv.below (Below.refl _ w))
 have hsU:=hid (hu.below (Below.refl _ w))
 obtain ⟨A,c,rfl,hc,hw⟩:=hv
 obtain ⟨A',c',rfl,hc',hw'⟩:=hu
 have H:=hid hw'
 have H':=hid hw
 have HF:=hid hfin
 have HS:=hid hsum
 have HW:=hid hws
 have HWL:=hid hwl
 clear hw hw' hfin hsum hws hwl hsL hsU
 have hmk:=make_nat1 (wl y) hn
 have hz0:(((wl x:Nat):Int) == 0) = false:=sO
 generalize hnL:wl y = nL at *
 generalize hnS:wl x = nS at *
 clear hnL hnS
 obtain ⟨w1,hcp,hr1,hg1⟩:=copy_run (w.alloc (zrow (nL + 1))) w.heap.size 0 (nL + 1) (nL + 1) nL c' (nL + 1) nL A' (fun _=>0) (dg y) (Row.zrow w (nL + 1)) (H.out.below (below_alloc _ _)) oM oM
 have hb1:Below w.heap.size w w1:=(below_alloc w _).grown hg1 sP (fun k hk=>by cases hk; exact Nat.le_refl _)
 go_enter Tryz.func234,Tryz.ntmps234
 go_wp2_with fail
 have HR:=hid hr1
 have HB:=hid hb1
 clear hr1 hb1 hg1
 refine (increase_any w.heap.size 0 (nL + 1) (nL + 1) (nL + 1) (cpy (fun _=>0) 0 (dg y) nL) A nS c (dg x) w1 HR.out (cpy_zero HWL.out _) oM (H'.out.below HB.out) HW.out ?_ oM ?_ oM).mono ?_
 ·intro _ a ha
  obtain ⟨b,o,rfl,hlt,_⟩:=H'.out h0
  cases ha
  simp; omega
 ·have e1:=vs_cpy_zero (f':=dg y) (k:=nL) (n:=nL + 1) oM
  simp only [Nat.zero_add]
  rw [e1]
  exact HS.out
 rintro e w2 ⟨rfl,f2,hr2,hf2,_,hv2,hg2⟩
 have e1:=vs_cpy_zero (f':=dg y) (k:=nL) (n:=nL + 1) oM
 simp only [Nat.zero_add] at hv2
 rw [e1,HF.out] at hv2
 have HV:=hid hv2
 have HR2:=hid hr2
 have HG:=hid hg2
 clear hv2 hr2 hg2 e1
 go_wp2_with fail
 refine (trim_nat _ _ _ f2 _ HR2.out.wn0 hf2 oM oM).mono ?_
 rintro e w3 ⟨vv,rfl,hvv,rfl⟩
 have HVV:=hid hvv
 clear hvv
 go_wp2
 go_ret
 exact ⟨vv,rfl,by rw [<- HV.out]; exact HVV.out,HB.out.grown HG.out HB.out.size (fun k hk=>by cases hk; exact Nat.le_refl _)⟩
theorem add_any (v u:Value) (x y:Nat) (w:World) (hv:IsNat w v x) (hu:IsNat w u y) (hn:wl x < 1099511627776) (hm:wl y < 1099511627776) :
  Calls Tryz.prog 234 #[v,u] w (RetNat w (x + y)):=by
 rcases Nat.lt_or_ge (wl x) (wl y) with hl | hl
 ·rcases Nat.eq_zero_or_pos (wl x) with h0 | h0
  ·obtain rfl:=wl_eq_zero.1 h0
   have HU:=hid hu
   obtain ⟨A,c,rfl,hc,hw⟩:=hv
   obtain ⟨A',c',rfl,hc',hw'⟩:=hu
   rw [wl_zero] at *
   clear hw hw' h0
   have hlt:(0:Int) < ((wl y:Nat):Int):=oM
   generalize hly:wl y = ly at *
   clear hly
   go_enter Tryz.func234,Tryz.ntmps234
   go_wp2
   go_ret
   exact ⟨_,rfl,by rw [Nat.zero_add]; exact HU.out,Below.refl _ _⟩
  ·exact add_lt v u x y w hv hu hl hm h0
 ·rcases Nat.eq_zero_or_pos (wl y) with h0 | h0
  ·obtain rfl:=wl_eq_zero.1 h0
   have HV:=hid hv
   obtain ⟨A,c,rfl,hc,hw⟩:=hv
   obtain ⟨A',c',rfl,hc',hw'⟩:=hu
   rw [wl_zero] at *
   clear hw hw' h0 hl
   generalize hlx:wl x = lx at *
   clear hlx
   go_enter Tryz.func234,Tryz.ntmps234
   go_wp2
   go_ret
   exact ⟨_,rfl,HV.out,Below.refl _ _⟩
  ·exact add_ge v u x y w hv hu hl hn h0
theorem sub_step {a c t b d y b' x P:Nat} (h1:a + t = c + b * P) (h2:d + y + b = x + b' * 4294967296):a + d * P + (t + y * P) = c + x * P + b' * (P * 4294967296):=by
 grind
theorem sub_step0 {a c t b d b' x P:Nat} (h1:a + t = c + b * P) (h2:d + 0 + b = x + b' * 4294967296):a + d * P + t = c + x * P + b' * (P * 4294967296):=by
 grind
theorem wd_upd_succ {f:Nat -> Nat} {k x:Nat} (h:Wd f k) (hx:x < 4294967296):Wd (upd f k x) (k + 1):=fun j hj=>by
 unfold upd
 split
 ·exact hx
 ·exact h j oM
theorem vs_upd_succ (f:Nat -> Nat) (k x:Nat):vs (upd f k x) (k + 1) = vs f k + x * 4294967296 ^ k:=by
 rw [vs_succ,vs_upd_ge _ _ (Nat.le_refl k),upd_same]
set_option maxRecDepth 100000 in
theorem sub_any (v u:Value) (x y:Nat) (w:World) (hv:IsNat w v x) (hu:IsNat w u y) (hle:y <= x) (hn:wl x < 1099511627776) :
  Calls Tryz.prog 235 #[v,u] w (RetNat w (x - y)):=by
 rcases Nat.eq_zero_or_pos (wl y) with h0 | h0
 ·obtain rfl:=wl_eq_zero.1 h0
  have HV:=hid hv
  clear hv
  obtain ⟨A',c',rfl,hc',hw'⟩:=hu
  rw [wl_zero] at *
  clear hw' h0
  go_enter Tryz.func235,Tryz.ntmps235
  go_wp2
  go_ret
  exact ⟨v,rfl,HV.out,Below.refl _ _⟩
 have hnl:=wl_mono hle
 have hX:=vs_dg_wl x
 have hY:=vs_dg_wl y
 have hfx:=Wd_dg x (wl x)
 have hfy:=Wd_dg y (wl y)
 obtain ⟨A,c,rfl,hc,hw⟩:=hv
 obtain ⟨A',c',rfl,hc',hw'⟩:=hu
 have H:=hid hw
 have H':=hid hw'
 have HX:=hid hX
 have HY:=hid hY
 clear hw hw' hX hY
 have hmk:=make_nat (wl x) oM
 have hz0:(((wl y:Nat):Int) == 0) = false:=sO
 generalize hnL:wl x = nL at *
 generalize hnS:wl y = nS at *
 clear hnL hnS
 go_enter Tryz.func235,Tryz.ntmps235
 go_wp2_with fail
 go_loopw [6,19] (fun cv i wr=>∃ k b:Nat,k <= nS /\ i = .int .i64 k /\ cv = .int .u32 b /\ b <= 1 /\ ∃ f,Row wr w.heap.size nL f /\ Wd f k /\
   vs f k + vs (dg y) k = vs (dg x) k + b * 4294967296 ^ k /\ Below w.heap.size w wr) (fun _ i _=>nS - (intOf i).toNat)
 case atStart=>exact ⟨0,0,oM,rfl,rfl,oM,_,Row.zrow w nL,fun j hj=>oM,by simp [vs_zero],below_alloc _ _⟩
 case round =>
  obtain ⟨k,b,hk,rfl,rfl,hb1,f,hrow,hfw,hv,hg⟩:=hrel
  have HV:=hid hv; clear hv
  have HG:=hid hg; clear hg
  have HRO:=hid hrow; clear hrow
  by_cases hlt:k < nS
  ·obtain ⟨g1,o1,rfl,hb,hc1⟩:=(H.out.below HG.out) oM
   obtain ⟨g2,o2,rfl,hb',hc2⟩:=(H'.out.below HG.out) oM
   have hcell:=hc1 k oM
   have hcell':=hc2 k oM
   have hz:=HRO.out.cell (j:=k) oM
   have hzf:=HRO.out.frozen k
   clear hc1 hc2
   go_wp2_with (go_at_call 240; refine (sub32_any _ _ _ _ (dg_lt _ _) (dg_lt _ _) hb1).mono ?_; rintro e w' ⟨s,kk,rfl,hs,hs1,hkk,rfl⟩; have HS:=hid hs; clear hs)
   go_roundw
   case rel=>exact ⟨k + 1,kk,oM,by go_num,rfl,hkk,upd f k s,HRO.out.set_ oM s,wd_upd_succ hfw hs1,by rw [vs_upd_succ,vs_succ,vs_succ,Nat.pow_succ]; exact sub_step HV.out HS.out,HG.out.setCell lR _⟩
   case measure=>exact mS
  ·obtain rfl:k = nS:=oM
   go_wp2_with fail
   go_loopw [6,9] (fun cv i wr=>∃ k2 b:Nat,k <= k2 /\ k2 <= nL /\ i = .int .i64 k2 /\ cv = .int .u32 b /\ b <= 1 /\ ∃ f,Row wr w.heap.size nL f /\ Wd f k2 /\
     vs f k2 + vs (dg y) k = vs (dg x) k2 + b * 4294967296 ^ k2 /\ Below w.heap.size w wr) (fun _ i _=>nL - (intOf i).toNat)
   case atStart=>exact ⟨k,b,oM,oM,rfl,rfl,hb1,f,HRO.out,hfw,HV.out,HG.out⟩
   case round =>
    clear HV HG HRO hfw hb1 hlt
    obtain ⟨k2,b,hk1,hk2,rfl,rfl,hb1,f,hrow,hfw,hv,hg⟩:=hrel
    have HV:=hid hv; clear hv
    have HG:=hid hg; clear hg
    have HRO:=hid hrow; clear hrow
    by_cases hlt2:k2 < nL
    ·obtain ⟨g1,o1,rfl,hb,hc1⟩:=(H.out.below HG.out) oM
     have hcell:=hc1 k2 oM
     have hz:=HRO.out.cell (j:=k2) oM
     have hzf:=HRO.out.frozen k2
     clear hc1
     go_wp2_with (go_at_call 240; refine (sub32_any _ 0 _ _ (dg_lt _ _) oM hb1).mono ?_; rintro e w' ⟨s,kk,rfl,hs,hs1,hkk,rfl⟩; have HS:=hid hs; clear hs)
     go_roundw
     case rel=>exact ⟨k2 + 1,kk,oM,oM,by go_num,rfl,hkk,upd f k2 s,HRO.out.set_ oM s,wd_upd_succ hfw hs1,by rw [vs_upd_succ,vs_succ,Nat.pow_succ]; exact sub_step0 HV.out HS.out,HG.out.setCell lR _⟩
     case measure=>exact mS
    ·obtain rfl:k2 = nL:=oM
     have hv:=HV.out
     rw [HX.out,HY.out] at hv
     have hfl:=vs_lt hfw
     obtain rfl:b = 0:=by
      rcases (show b = 0 ∨ b = 1 by omega) with h | h
      ·exact h
      ·subst h; omega
     have he:vs f k2 = x - y:=oM
     have HE:=hid he
     clear he
     clear hv hfl
     go_wp2_with fail
     refine (trim_nat _ _ _ f _ HRO.out.wn0 hfw oM oM).mono ?_
     rintro e w3 ⟨vv,rfl,hvv,rfl⟩
     have HVV:=hid hvv
     clear hvv
     go_wp2
     go_ret
     exact ⟨vv,rfl,by rw [<- HE.out]; exact HVV.out,HG.out⟩
end Go.Proofs.YtjodlmanheeajaaGreatDoor
