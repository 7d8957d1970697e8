import Derived.Test.YtffegeaflohfhaaGreatDoorS38
import Derived.Test.YtffegeaflohfhaaGreatDoorS40
import Derived.Test.YtffegeaflohfhaaGreatDoorS41
import Derived.Test.YtffegeaflohfhaaGreatDoorS42
import Derived.Test.YtffegeaflohfhaaGreatDoorS44
import Derived.Test.YtffegeaflohfhaaGreatDoorS02
set_option linter.unusedVariables false
set_option linter.unusedSimpArgs false
set_option maxRecDepth 100000
set_option maxHeartbeats 8000000
namespace Go.Proofs.YtffegeaflohfhaaGreatDoor
open Go.RowKit
theorem empty_run (W:World):(Instr.buildSlice 50 0 #[]).run Tryz.prog W = .ok (.slice (some ⟨W.heap.size,0,none⟩) 0 0) (W.alloc (.cells #[] 42)):=by
 simp [Instr.buildSlice,run_underlying Tryz.underlying50,Sem.run_bind,sQ,Instr.fill,newRow,go_sem]
theorem upf_back {α:Type} (f:Nat -> α) (i:Nat):upf f i (f i) = f:=funext fun j=>by
 by_cases e:j = i
 ·rw [e,upf_same]
 ·rw [upf_other _ _ e]
theorem wpl_app {P:Program} {ops:Array Oper} {rest:List Oper} {o:Oper} {a:Act} {w w':World} {Q:Exit -> Act -> World -> Prop} (hgd:o.guard = none) {x y:Operand} {t:TypeId} (ho:o.op = .call ⟨.builtin .append,#[x,y],#[t,t]⟩) {v u r:Value}
  (hx:a.eval x = v) (hy:a.eval y = u) (hr:∀ ty,(Builtin.append_ #[t,t] ty #[v,u]).run P w = .ok r w') (h:wpList P ops Q rest (a.put o.dst r) w'):wpList P ops Q (o :: rest) a w :=
 wpList_plain hgd fun _ hK=>wp_append ho hx hy hr (hK _ _ h)
theorem size_alloc' (w:World) (o:Obj):(w.alloc o).heap.size = w.heap.size + 1:=sP
def RetCopy (w:World) (n m:Nat) (F:Nat -> Nat -> Cx) (e:Ending) (w':World):Prop :=
 ∃ go gk ck,e = .returned (.slice (some ⟨go,0,none⟩) n n) /\ RowsQ w.heap.size w' go gk (fun _=>m) ck n n (fun _ j=>j < m) F /\ (∀ i,i < n -> m <= ck i) /\ Below w.heap.size w w'
theorem rCopy_any (w:World) (ga:Nat) (gi:Nat -> Nat) (n m cap:Nat) (F:Nat -> Nat -> Cx) (h:MatQ w ga gi n m F) (hn:n <= 40) (hm:m <= 40) :
  Calls Tryz.prog 55 #[.slice (some ⟨ga,0,none⟩) n cap] w (RetCopy w n m F):=by
 obtain ⟨W1,hr1,hb1,hs1,hP1⟩:=make_matq n m oM w F gi
 have HB1:=hid hb1
 have HR1:=hid (show RowsQ w.heap.size W1 w.heap.size gi (fun _=>m) (fun _=>m) n 0 (fun _ j=>j < m) F from hP1.rows0)
 have HA:=hid h
 have EB:=empty_run
 clear h hP1 hb1
 go_enter Tryz.func55,Tryz.ntmps55
 go_wp2
 clear hr1
 go_loopw [4] (fun iv wr=>∃ (i:Nat) (gk ck:Nat -> Nat),iv = .int .i64 (i:Int) /\ i <= n /\ RowsQ w.heap.size wr w.heap.size gk (fun _=>m) ck n i (fun _ j=>j < m) F /\ (∀ j,j < i -> m <= ck j) /\ Below w.heap.size w wr) (fun iv _=>n - (intOf iv).toNat)
 case atStart=>exact ⟨0,gi,fun _=>m,rfl,oM,HR1.out,fun j hj=>oM,HB1.out⟩
 case round =>
  obtain ⟨i,gk,ck,rfl,hi,hR,hc,hB⟩:=hrel
  have HR:=hid hR
  have HC:=hid hc
  have KB:=hid hB
  clear hR hc hB HB1 HR1
  by_cases hlt:i < n
  ·have hrow:=(HA.out.below KB.out).row hlt
   have hx1:=(HA.out.below (bT KB.out (below_alloc wr (.cells #[] 42)))).cell hlt
   obtain ⟨W3,gN,c',hap,hb3,hgN,hmc,hQ⟩:=row_copy (w:=wr.alloc (.cells #[] 42)) (e:=wr.heap.size) (g:=gi i) (cc:=m) (heap_alloc_new wr _) (hrow.below (below_alloc _ _)) oM
   have HB3:=hid (show Below wr.heap.size wr W3 from (below_alloc wr (.cells #[] 42)).trans hb3)
   have hgl:wr.heap.size <= gN:=by
    rcases hgN with e | e
    ·omega
    ·have:=size_alloc' wr (.cells #[] 42)
     omega
   have hgo:w.heap.size < wr.heap.size:=HR.out.lt
   have HL:=hid (HR.out.below HB3.out)
   have HL2:=hid (HL.out.lay (i:=i) (l:=m) (c:=c') lR hlt (g:=gN) (U:=fun j=>j < m) (f:=F i) oM oM (fun j hj _=>by have:=(HR.out.rows j hj).lt; omega) hQ)
   have HCT:=hid (HL.out.cut (i:=i) (l:=m) (c:=c') (A:=some ⟨gN,0,none⟩))
   have HMC:=hid hmc
   have hfr:W3.frozen? ⟨w.heap.size,i,none⟩ = false:=HL.out.frozen i
   have hce:=HL.out.cell_nil lR hlt
   have hi0:(0:Int) <= (i:Int):=oM
   have hi1:(i:Int) < (n:Int):=oM
   clear hrow hb3 hgN hmc hQ hgl
   have HAP:=hid hap
   clear hap
   go_wp2_with (at_builtin; refine wpl_app rfl rfl rfl rfl HAP.out ?_)
   go_roundw
   case rel =>
    refine ⟨i + 1,upf gk i gN,upf ck i c',by go_num,oM,?_,fun j hj=>?_,?_⟩
    ·have:=HL2.out
     rw [show max i (i + 1) = i + 1 by omega] at this
     rw [show upf (fun _:Nat=>m) i m = fun _=>m from upf_back _ i,show upf (fun (_:Nat) j=>j < m) i (fun j=>j < m) = fun _ j=>j < m from upf_back _ i,upf_back] at this
     exact this
    ·by_cases e:j = i
     ·rw [e,upf_same]; exact HMC.out
     ·rw [upf_other _ _ e]; exact HC.out j oM
    ·exact (HCT.out.1).below (bT KB.out HB3.out) lR
   case measure=>exact mS
  ·obtain rfl:i = n:=oM
   go_wp2
   go_ret
   exact ⟨_,gk,ck,rfl,HR.out,HC.out,KB.out⟩
def clrP (F:Nat -> Nat -> Cx) (r c a k:Nat):Nat -> Nat -> Cx:=fun x b=>if r < x /\ c <= b /\ (x < a ∨ x = a /\ b < k) then (F x b).sub (((F x c).div (F r c)).mul (F r b)) else F x b
theorem clrP_start (F:Nat -> Nat -> Cx) (r c:Nat):clrP F r c (r + 1) c = F:=by
 funext x b
 unfold clrP
 rw [if_neg oM]
theorem clrP_row (F:Nat -> Nat -> Cx) (r c a k b:Nat):clrP F r c a k r b = F r b:=by
 unfold clrP
 rw [if_neg oM]
theorem clrP_here (F:Nat -> Nat -> Cx) (r c a k:Nat):clrP F r c a k a k = F a k:=by
 unfold clrP
 rw [if_neg oM]
theorem clrP_open (F:Nat -> Nat -> Cx) (r c a:Nat):clrP F r c a c a c = F a c:=clrP_here F r c a c
theorem clrP_next (F:Nat -> Nat -> Cx) (r c a k:Nat) (hr:r < a) (hc:c <= k):upf (clrP F r c a k) a (upf (clrP F r c a k a) k ((F a k).sub (((F a c).div (F r c)).mul (F r k)))) = clrP F r c a (k + 1):=by
 funext x b
 by_cases hx:x = a
 ·subst hx
  rw [upf_same]
  by_cases hb:b = k
  ·subst hb
   rw [upf_same]
   unfold clrP
   rw [if_pos oM]
  ·rw [upf_other _ _ hb]
   unfold clrP
   by_cases h:r < x /\ c <= b /\ (x < x ∨ x = x /\ b < k)
   ·rw [if_pos h,if_pos oM]
   ·rw [if_neg h,if_neg oM]
 ·rw [upf_other _ _ hx]
  unfold clrP
  by_cases h:r < x /\ c <= b /\ (x < a ∨ x = a /\ b < k)
  ·rw [if_pos h,if_pos oM]
  ·rw [if_neg h,if_neg oM]
theorem clrP_shut (F:Nat -> Nat -> Cx) (r c a m:Nat):∀ x b,b < m -> clrP F r c a m x b = clrP F r c (a + 1) c x b:=fun x b hb=>by
 unfold clrP
 by_cases h:r < x /\ c <= b /\ (x < a ∨ x = a /\ b < m)
 ·rw [if_pos h,if_pos oM]
 ·rw [if_neg h,if_neg oM]
theorem clrP_all (F:Nat -> Nat -> Cx) (r c n:Nat):clrP F r c n c = clrQ F r c n:=by
 funext x b
 unfold clrP clrQ
 by_cases h:r < x /\ x < n /\ c <= b
 ·rw [if_pos h,if_pos oM]
 ·rw [if_neg h,if_neg oM]
theorem sz_clrP {F:Nat -> Nat -> Cx} {n m r c s:Nat} (hS:∀ a b,a < n -> b < m -> Sz (F a b) s) (hr:r < n) (hc:c < m) (a k:Nat):∀ x b,x < n -> b < m -> Sz (clrP F r c a k x b) (5 * s + 4):=fun x b hx hb=>by
 unfold clrP
 split
 ·exact ((hS x b hx hb).sub (((hS x c hx hc).div (hS r c hr hc)).mul (hS r b hr hb))).mono oM
 ·exact (hS x b hx hb).mono oM
theorem sz_swp {F:Nat -> Nat -> Cx} {n m c p s:Nat} (hS:∀ a b,a < n -> b < m -> Sz (F a b) s) (hc:c < n) (hp:p < n):∀ a b,a < n -> b < m -> Sz (swp F c p a b) s:=fun a b ha hb=>by
 unfold swp
 split
 ·exact hS _ _ hp hb
 ·split
  ·exact hS _ _ hc hb
  ·exact hS _ _ ha hb
theorem swp_comm {α:Type} (f:Nat -> α) (c p:Nat):swp f c p = swp f p c:=by
 funext j
 unfold swp
 by_cases h1:j = c
 ·by_cases h2:j = p
  ·rw [if_pos h1,if_pos h2,<- h1,<- h2]
  ·rw [if_pos h1,if_neg h2,if_pos h1]
 ·by_cases h2:j = p
  ·rw [if_neg h1,if_pos h2,if_pos h2]
  ·rw [if_neg h1,if_neg h2,if_neg h2,if_neg h1]
theorem swp_const {α:Type} (x:α) (c p:Nat):swp (fun _=>x) c p = fun _=>x:=by
 funext j
 unfold swp
 split
 ·rfl
 ·split <;> rfl
theorem QBlk.one {W:World} {g:Nat} {A B C:Option Addr} {p q:Bool} {na ca nb cb nc cc:Nat} {V:Nat -> Prop} {x:Cx} (h:W.heap[g]? = some (.cells #[.bool p,.slice A na ca,.bool q,.slice B nb cb,.slice C nc cc] 42 (0,0))) (hx:V 0 -> IsQ W (.agg #[.bool p,.slice A na ca,.bool q,.slice B nb cb,.slice C nc cc]) x) :
  QBlk W g 1 V (fun _=>x):=⟨_,h,rfl,by simp [Value.oneCell'],fun j hj=>by
 obtain rfl:j = 0:=oM
 exact ⟨_,_,_,_,_,_,_,_,_,_,_,rfl,rfl,rfl,rfl,rfl,hx⟩⟩
def RetEch (w:World) (n m:Nat) (R:(Nat -> Nat -> Cx) × Nat × Bool) (e:Ending) (w':World):Prop :=
 ∃ go gk ck,e = .returned (.tuple #[.slice (some ⟨go,0,none⟩) n n,.int .i64 (R.2.1:Int),.bool R.2.2]) /\ RowsQ w.heap.size w' go gk (fun _=>m) ck n n (fun _ j=>j < m) R.1 /\ (∀ i,i < n -> m <= ck i) /\ Below w.heap.size w w'
def kQE (x:Cx) (k:Int):Value -> World -> Prop:=fun v W=>∃ u,v = .tuple #[u,.int .i64 k] /\ IsQ W u x
theorem stab_qe (x:Cx) (k:Int):Stab (kQE x k):=fun _ _ _ he ⟨u,e,h⟩=>⟨u,e,IsQ.ext h he⟩
theorem pivF_is {F:Nat -> Nat -> Cx} {c r n p:Nat} (h1:r <= p) (h2:p < n) (hz:∀ a,r <= a -> a < p -> F a c = .zero) (hp:F p c ≠ .zero):pivF F c r (n - r) = (p:Int):=by
 rcases pivF_cases F c (n - r) r with ⟨-,h⟩ | ⟨q,q1,q2,q3,q4,q5⟩
 ·exact absurd (h p h1 oM) hp
 ·rcases Nat.lt_trichotomy p q with c | c | c
  ·exact absurd (q5 p h1 c) hp
  ·rw [c]; exact q3
  ·exact absurd (hz q q1 c) q4
theorem pivF_no {F:Nat -> Nat -> Cx} {c r n:Nat} (hz:∀ a,r <= a -> a < n -> F a c = .zero):pivF F c r (n - r) = -1:=by
 rcases pivF_cases F c (n - r) r with ⟨h,-⟩ | ⟨q,q1,q2,q3,q4,q5⟩
 ·exact h
 ·exact absurd (hz q q1 oM) q4
theorem rQE {f:FuncId} {xs:Array Value} {W:World} {x:Cx} {k:Int} (h:Calls Tryz.prog f xs W (RetQE W x k)):Calls Tryz.prog f xs W fun e w'=>∃ v,e = .returned v /\ kQE x k v w' /\ Below W.heap.size W w' :=
 h.mono fun _ _ ⟨u,h1,h2,h3⟩=>⟨_,h1,⟨u,rfl,h2⟩,h3⟩
section
variable {ops:Array Oper} {kl:List RK} {B:Nat} {w0:World} {a0:Act} {o:Oper} {i:Nat}
theorem uX0 (j:Nat) {s:Nat} {x:Cx} {k:Int} (ho:o.op = .extract (.tmp s) 0) (hs:∀ ts,slot ops a0 ts s = ts j:=by intro ts; kernel_rfl) (hk:rk kl j = .val (kQE x k):=by rfl) (hj:predB ops i j = true:=by kernel_rfl):ObU Tryz.prog ops kl B w0 a0 o i (kQ x) :=
 fun ts W a ha hb hB hp K hK=>⟨by
  obtain ⟨u,e,hu⟩:=(hp j hj).of hk
  have e1:=(ha s).trans ((hs ts).trans e)
  unfold Oper.wp execOp
  simp only [ho,e1]
  simp [go_sem]
  exact hK _ _ hu rfB⟩
theorem uX1 (j:Nat) {s:Nat} {x:Cx} {k:Int} (ho:o.op = .extract (.tmp s) 1) (hs:∀ ts,slot ops a0 ts s = ts j:=by intro ts; kernel_rfl) (hk:rk kl j = .val (kQE x k):=by rfl) (hj:predB ops i j = true:=by kernel_rfl):ObU Tryz.prog ops kl B w0 a0 o i (kIs (.int .i64 k)) :=
 fun ts W a ha hb hB hp K hK=>⟨by
  obtain ⟨u,e,hu⟩:=(hp j hj).of hk
  have e1:=(ha s).trans ((hs ts).trans e)
  unfold Oper.wp execOp
  simp only [ho,e1]
  simp [go_sem]
  exact hK _ _ rfl rfB⟩
end
theorem rEchelon_any (w:World) (ga:Nat) (gi:Nat -> Nat) (n m cap s:Nat) (F:Nat -> Nat -> Cx) (h:MatQ w ga gi n m F) (hn0:0 < n ∨ m = 0) (hn:n <= 40) (hm:m <= 40) (hS:∀ a b,a < n -> b < m -> Sz (F a b) s) (h5:szE s n < 549755813888) :
  Calls Tryz.prog 50 #[.slice (some ⟨ga,0,none⟩) n cap] w (RetEch w n m (echQ n m 0 0 F false)):=by
 have HCP:=hid (rCopy_any w ga gi n m cap F h hn hm)
 have HCL:=hid (fun W (hb:Below w.heap.size w W)=>rColumns_any W _ n _ F ((h.below hb).qss cap))
 rw [show (if n = 0 then 0 else (fun _:Nat=>m) 0) = m by split <;> first | omega | rfl] at HCL
 have HS0:=hid hS
 obtain ⟨R,hR⟩:∃ R,R = echQ n m 0 0 F false:=⟨_,rfl⟩
 rw [<- hR]
 have HR:=hid hR
 clear h hS hR
 go_enter Tryz.func50,Tryz.ntmps50
 go_wp2_with fail
 refine HCP.out.mono ?_
 rintro e W2 ⟨go,g2,c2,rfl,hL,hC,hB⟩
 have HL0:=hid hL
 have HC0:=hid hC
 have KB0:=hid hB
 have hgo:w.heap.size <= go:=hL.sep.lo
 clear hL hC hB HCP
 go_wp2_with fail
 go_loopw [6,7,8] (fun rv ov cv wr=>∃ (r c:Nat) (o:Bool) (gk ck:Nat -> Nat) (G:Nat -> Nat -> Cx),rv = .int .i64 (r:Int) /\ ov = .bool o /\ cv = .int .i64 (c:Int) /\ r <= n /\ c <= m /\ R = echQ n (m - c) c r G o /\ RowsQ w.heap.size wr go gk (fun _=>m) ck n n (fun _ j=>j < m) G /\ (∀ i,i < n -> m <= ck i) /\ Below w.heap.size w wr /\ (∀ a b,a < n -> b < m -> Sz (G a b) (szE s r))) (fun _ _ cv _=>m - (intOf cv).toNat)
 case atStart=>exact ⟨0,0,false,g2,c2,F,rfl,rfl,rfl,oM,oM,HR.out,HL0.out,HC0.out,KB0.out,HS0.out⟩
 case round =>
  obtain ⟨r,c,o,gk,ck,G,rfl,rfl,rfl,hr,hcm,hE,hL,hC,hB,hS⟩:=hrel
  have HE:=hid hE
  have HL:=hid hL
  have HC:=hid hC
  have KB:=hid hB
  have HS:=hid hS
  clear hE hL hC hB hS HL0 HC0 KB0 HR HS0
  by_cases hc:c < m
  ·by_cases hrn:r < n
   ·have hd1:decide ((c:Int) < (m:Int)) = true:=sO
    have hd2:decide ((r:Int) < (n:Int)) = true:=sO
    go_wp2_with fail
    refine (HCL.out _ KB.out).mono ?_
    rintro e W3 ⟨rfl,rfl⟩
    go_wp2_with fail
    go_loopw [9] (fun pv wx=>∃ p:Nat,pv = .int .i64 (p:Int) /\ r <= p /\ p <= n /\ (∀ a,r <= a -> a < p -> G a c = .zero) /\ RowsQ w.heap.size wx go gk (fun _=>m) ck n n (fun _ j=>j < m) G /\ Below w.heap.size w wx) (fun pv _=>n - (intOf pv).toNat)
    case atStart=>exact ⟨r,rfl,oM,oM,fun a h1 h2=>oM,HL.out,KB.out⟩
    case round =>
     clear HL KB
     obtain ⟨p,rfl,hp1,hp2,hz,hL,hB⟩:=hrel
     have HZS:=hid hz
     have HL:=hid hL
     have KB:=hid hB
     clear hz hL hB
     by_cases hpn:p < n
     ·have HZ:=hid (fun W v (hv:IsQ W v (G p c))=>rZero_any v (G p c) W hv)
      have HZB:=hid (Iff.refl (G p c = .zero))
      obtain ⟨zb,hzb⟩:∃ zb,zb = decide (G p c = .zero):=⟨_,rfl⟩
      rw [<- hzb] at HZ
      have HZB:=hid hzb
      clear hzb
      have hpl:decide ((p:Int) < (n:Int)) = true:=sO
      go_upto_region 8 with fail
      refine region_litA [.val (kIs (.int .i64 (p:Int))),.val (kIs (.slice (some ⟨go,0,none⟩) n n)),.val (kIs (.int .i64 (n:Int))),.val (kIs (.bool true)),.val (kIs (.bool true)),.val (kIs (.slice (some ⟨go,0,none⟩) n n)),.val (kIs (.int .i64 (p:Int))),.val (kIs (.pointer (some ⟨go,p,none⟩))),.val (kIs (.slice (some ⟨gk p,0,none⟩) m (ck p))),.val (kIs (.int .i64 (c:Int))),.val (kIs (.pointer (some ⟨gk p,5 * c,none⟩))),.val (kQ (G p c)),.val (kIs (.bool zb)),.val (kIs (.bool zb))]
       ?fl3 ?hfl3 kR kR kR kR kR ⟨Stab.b (stab_is _),Stab.b (stab_is _),Stab.b (stab_is _),Stab.b (stab_is _),Stab.b (stab_is _),Stab.b (stab_is _),Stab.b (stab_is _),Stab.b (stab_is _),Stab.b (stab_is _),Stab.b (stab_is _),Stab.b (stab_is _),Stab.b (stab_q _),Stab.b (stab_is _),Stab.b (stab_is _),trivial⟩ sP ⟨obN (uMf rfl .fr),obN (uMf rfl .fr),obN (uLen rfl (.is 1) uM),obN (uBn rfl (.is 0) (.is 2) fun w=>by simp [go_sem]; omega),obN (uMv 3),obG 4 (uMf rfl .fr),obG 4 (uMf rfl .fr),obG 4 (uIr rfl (.is 5) (.is 6) hpn),obG 4 (uLr' rfl (.is 7) fun W hb=>(HL.out.below hb).cell hpn),obG 4 (uMf rfl .fr),obG 4 (uIq rfl (.is 8) (.is 9) hc),obG 4 (uQe rfl (.is 10) (fun W hb=>(HL.out.below hb).rows _ hpn) (lL hc (HC.out _ hpn)) hc),obG 4 (uC1 rfl (.at 11) fun _ W hb h=>cIs (HZ.out W _ (pg 11 h))),obN (uPt rfl (.is 4) (.is 12)),trivial⟩ ?_
      case hfl3=>intro ts; simp only [fillT,zA,Nat.reduceAdd,sA,sB,sC]; rfl
      intro ts W8 hb8 hh hap
      have e13:=held_is (hh 13 sP) rfl
      simp only [e13]
      clear hh hap e13
      have HL8:=hid (HL.out.below hb8)
      have KB8:=hid (bT KB.out hb8)
      clear HL KB hb8
      cases zb
      ·have hzp:G p c ≠ .zero:=of_decide_eq_false HZB.out.symm
       have hpv:=pivF_is hp1 hpn HZS.out hzp
       have HRf:=hid (show R = echQ n (m - (c + 1)) (c + 1) (r + 1) (clrQ (swp G r p) r c n) (if (p:Int) = (r:Int) then o else !o) by
        rw [HE.out,show m - c = (m - (c + 1)) + 1 by omega,echQ,if_pos hrn,if_neg (by rw [hpv]; omega),hpv]; rfl)
       have HP0:=hid (show swp G r p r c ≠ .zero by unfold swp; simp only [if_true]; exact hzp)
       have HSS:=hid (sz_swp (p:=p) HS.out hrn hpn)
       have hne:((p:Int) == (n:Int)) = false:=sO
       clear hzp hpv HZB HZS HE HZ HS
       go_upto_if 51 with fail
       go_cut [7] from 16 to 128 (fun ov wx=>∃ (o2:Bool) (gk2 ck2:Nat -> Nat) (G2:Nat -> Nat -> Cx),ov = .bool o2 /\ R = echQ n (m - (c + 1)) (c + 1) (r + 1) (clrQ G2 r c n) o2 /\ G2 r c ≠ .zero /\ RowsQ w.heap.size wx go gk2 (fun _=>m) ck2 n n (fun _ j=>j < m) G2 /\ (∀ i,i < n -> m <= ck2 i) /\ Below w.heap.size w wx /\ (∀ a b,a < n -> b < m -> Sz (G2 a b) (szE s r)))
       case first =>
        by_cases hpr:p = r
        ·obtain rfl:r = p:=oM
         have hb:((r:Int) != (r:Int)) = false:=sP
         go_wp2
         go_meet
         refine ⟨o,gk,ck,swp G r r,rfl,by rw [HRf.out]; simp only [if_true],HP0.out,by rw [swp_id]; exact HL8.out,HC.out,KB8.out,HSS.out⟩
        ·have hb:((p:Int) != (r:Int)) = true:=sO
         have x1:=HL8.out.cell hrn
         have x2:=HL8.out.cell hpn
         have y1:=HL8.out.frozen r
         have y2:=HL8.out.frozen p
         go_upto_region 12 with fail
         have i1:(r:Int) < (n:Int):=oM
         have i2:(p:Int) < (n:Int):=oM
         have i3:(0:Int) <= (r:Int):=oM
         have n1:¬ p = r:=hpr
         have x3:(W8.drew.setCell ⟨go,p,none⟩ (.slice (some ⟨gk r,0,none⟩) m (ck r))).cell? ⟨go,r,none⟩ = some (.slice (some ⟨gk r,0,none⟩) m (ck r)):=by
          rw [World.cell?_setCell_other _ _ _ _ (by intro e; injection e with _ e; exact n1 e)]
          exact x1
         go_region
         have HSW:=hid (HL8.out.swap hpn hrn)
         have HM6:=hid (HSW.out.1.below (W':=World.drew _) (rfB.drew))
         have HB6:=hid (KB8.out.trans (HSW.out.2.drew))
         clear HSW x1 x2 y1 y2 x3
         rw [swp_const,swp_const,swp_comm gk,swp_comm ck,swp_comm G] at HM6
         generalize ((W8.setCell ⟨go,p,none⟩ (.slice (some ⟨gk r,0,none⟩) m (ck r))).setCell ⟨go,r,none⟩ (.slice (some ⟨gk p,0,none⟩) m (ck p))).drew = W6 at *
         go_wp2
         go_meet
         refine ⟨!o,swp gk r p,swp ck r p,swp G r p,rfl,by rw [HRf.out,if_neg oM],HP0.out,HM6.out,fun i hi=>?_,HB6.out,HSS.out⟩
         unfold swp
         split
         ·exact HC.out p hpn
         ·split
          ·exact HC.out r hrn
          ·exact HC.out i hi
       case rest =>
        obtain ⟨o2,gk2,ck2,G2,rfl,hE2,h02,hL2,hC2,hB2,hS2⟩:=hcut
        have HE2:=hid hE2
        have H02:=hid h02
        have HL2:=hid hL2
        have HC2:=hid hC2
        have KB2:=hid hB2
        have HS2:=hid hS2
        have hsz:5 * szE s r + 4 < 549755813888:=by
         have:=szE_mono s (show r + 1 <= n by omega)
         rw [szE] at this
         omega
        clear hE2 h02 hL2 hC2 hB2 hS2 HRf HP0 HSS HL8 KB8 HC HCL hne
        go_wp2_with fail
        go_loopw [10] (fun av wx=>∃ a:Nat,av = .int .i64 (a:Int) /\ r + 1 <= a /\ a <= n /\ RowsQ w.heap.size wx go gk2 (fun _=>m) ck2 n n (fun _ j=>j < m) (clrP G2 r c a c) /\ Below w.heap.size w wx) (fun av _=>n - (intOf av).toNat)
        case atStart=>exact ⟨r + 1,by go_num,oM,oM,by rw [clrP_start]; exact HL2.out,KB2.out⟩
        case round =>
         clear HL2 KB2
         obtain ⟨a,rfl,har,han,hL,hB⟩:=hrel
         have KBa:=hid hB
         obtain ⟨H,hH⟩:∃ H,H = clrP G2 r c a c:=⟨_,rfl⟩
         rw [<- hH] at hL
         have HLa:=hid hL
         have HHe:=hid hH
         clear hL hB hH
         by_cases ha:a < n
         ·obtain ⟨f,hf⟩:∃ f,f = (G2 a c).div (G2 r c):=⟨_,rfl⟩
          have e1:H a c = G2 a c:=by rw [HHe.out,clrP_open]
          have e2:H r c = G2 r c:=by rw [HHe.out,clrP_row]
          have HDV:=hid (fun W v u (h1:IsQ W v (H a c)) (h2:IsQ W u (H r c))=>rDiv_any v u (H a c) (H r c) W h1 h2 _ _ (by rw [e1]; exact HS2.out a c ha hc) (by rw [e2]; exact HS2.out r c hrn hc) oM (by rw [e2]; exact H02.out))
          rw [show (H a c).div (H r c) = f by rw [e1,e2,hf]] at HDV
          have HFe:=hid hf
          clear e1 e2 hf
          go_upto_region 17 with fail
          refine region_litA [.val (kIs (.slice (some ⟨go,0,none⟩) n n)),.val (kIs (.int .i64 (a:Int))),.val (kIs (.pointer (some ⟨go,a,none⟩))),.val (kIs (.slice (some ⟨gk2 a,0,none⟩) m (ck2 a))),.val (kIs (.int .i64 (c:Int))),.val (kIs (.pointer (some ⟨gk2 a,5 * c,none⟩))),.val (kQ (H a c)),.val (kIs (.slice (some ⟨go,0,none⟩) n n)),.val (kIs (.int .i64 (r:Int))),.val (kIs (.pointer (some ⟨go,r,none⟩))),.val (kIs (.slice (some ⟨gk2 r,0,none⟩) m (ck2 r))),.val (kIs (.int .i64 (c:Int))),.val (kIs (.pointer (some ⟨gk2 r,5 * c,none⟩))),.val (kQ (H r c)),.val (kQE f 0),.val (kQE f 0),.val (kQ (f)),.val (kIs (.int .i64 0)),.box tQ zQ,.put 18 16,.val (kIs (.int .i64 0))]
           ?fl1 ?hfl1 kR kR kR kR kR ⟨stab_is _,stab_is _,stab_is _,stab_is _,stab_is _,stab_is _,stab_q _,stab_is _,stab_is _,stab_is _,stab_is _,stab_is _,stab_is _,stab_q _,stab_qe _ _,stab_qe _ _,stab_q _,stab_is _,stab_is _,trivial⟩ sP ⟨obN (uMf rfl .fr),obN (uMf rfl .fr),obN (uIr rfl (.is 0) (.is 1) ha),obN (uLr' rfl (.is 2) fun W hb=>(HLa.out.below hb).cell ha),obN (uMf rfl .fr),obN (uIq rfl (.is 3) (.is 4) hc),obN (uQe rfl (.is 5) (fun W hb=>(HLa.out.below hb).rows _ ha) (lL hc (HC2.out _ ha)) hc),obN (uMf rfl .fr),obN (uMf rfl .fr),obN (uIr rfl (.is 7) (.is 8) hrn),obN (uLr' rfl (.is 9) fun W hb=>(HLa.out.below hb).cell hrn),obN (uMf rfl .fr),obN (uIq rfl (.is 10) (.is 11) hc),obN (uQe rfl (.is 12) (fun W hb=>(HLa.out.below hb).rows _ hrn) (lL hc (HC2.out _ hrn)) hc),obN (uC2 rfl (.at 6) (.at 13) fun _ W hb h=>rQE (HDV.out W _ _ (pg 6 h) (pg 13 h))),obN (uMv 14),obN (uX0 15 rfl),obN (uX1 15 rfl),alloc_q,store_q _,obN (uAs 17),trivial⟩ ?_
          case hfl1=>intro ts; simp only [fillT,zA,Nat.reduceAdd,sA,sB,sC]; rfl
          intro ts W9 hb9 hh hap
          obtain ⟨g11,A11,n11,c11,p11,A11b,n11b,c11b,p11b,A11c,n11c,c11c,e11,lo11,z11,X11,N11⟩:=held_boxQ (x:=f) (hh 18 sP) rfl (hh 19 sP) rfl (hh 16 sP) rfl
          have e12:=held_is (hh 20 sP) rfl
          simp only [e11,e12]
          clear hh hap e11 e12
          have HF:=hid (QBlk.one (V:=fun _=>True) X11 fun _=>N11)
          have HG:=hid (fun i (hi:i < n)=>show gk2 i ≠ g11 from fun e=>by have:=(HLa.out.rows i hi).lt; omega)
          have HLb:=hid (HLa.out.below hb9)
          have KBb:=hid (bT KBa.out hb9)
          rw [HHe.out] at HLb
          clear HLa KBa hb9 X11 N11 z11 lo11 HHe HDV
          go_wp2_with fail
          go_loopw [13] (fun kv wx=>∃ k:Nat,kv = .int .i64 (k:Int) /\ c <= k /\ k <= m /\ RowsQ w.heap.size wx go gk2 (fun _=>m) ck2 n n (fun _ j=>j < m) (clrP G2 r c a k) /\ QBlk wx g11 1 (fun _=>True) (fun _=>f) /\ Below w.heap.size w wx) (fun kv _=>m - (intOf kv).toNat)
          case atStart=>exact ⟨c,rfl,oM,oM,HLb.out,HF.out,KBb.out⟩
          case round =>
           clear HLb KBb HF
           obtain ⟨k,rfl,hck,hkm,hL,hF,hB⟩:=hrel
           have HF:=hid hF
           have KBk:=hid hB
           obtain ⟨P,hP⟩:∃ P,P = clrP G2 r c a k:=⟨_,rfl⟩
           rw [<- hP] at hL
           have HLk:=hid hL
           have HPe:=hid hP
           clear hL hF hB hP
           have hcell:=HLk.out.cell ha
           by_cases hk:k < m
           ·have e1:P a k = G2 a k:=by rw [HPe.out,clrP_here]
            have e2:P r k = G2 r k:=by rw [HPe.out,clrP_row]
            have hsf:Sz f (3 * szE s r + 2):=by rw [HFe.out]; exact ((HS2.out a c ha hc).div (HS2.out r c hrn hc)).mono oM
            have hsr:Sz (P r k) (szE s r):=by rw [e2]; exact HS2.out r k hrn hk
            have HMU:=hid (fun W v u (h1:IsQ W v f) (h2:IsQ W u (P r k))=>rMul_any v u f (P r k) W h1 h2 _ _ hsf hsr oM)
            have HSU:=hid (fun W v u (h1:IsQ W v (P a k)) (h2:IsQ W u (f.mul (P r k)))=>rSub_any v u (P a k) (f.mul (P r k)) W h1 h2 _ _ (by rw [e1]; exact HS2.out a k ha hk) (hsf.mul hsr) oM)
            have HZe:=hid (show (P a k).sub (f.mul (P r k)) = (G2 a k).sub (((G2 a c).div (G2 r c)).mul (G2 r k)) by rw [e1,e2,HFe.out])
            clear e1 e2 hsf hsr
            go_upto_region 21 with fail
            clear hcell
            refine region_lastA [.val (kIs (.slice (some ⟨go,0,none⟩) n n)),.val (kIs (.int .i64 (a:Int))),.val (kIs (.pointer (some ⟨go,a,none⟩))),.val (kIs (.slice (some ⟨gk2 a,0,none⟩) m (ck2 a))),.val (kIs (.int .i64 (k:Int))),.val (kIs (.slice (some ⟨go,0,none⟩) n n)),.val (kIs (.int .i64 (a:Int))),.val (kIs (.pointer (some ⟨go,a,none⟩))),.val (kIs (.slice (some ⟨gk2 a,0,none⟩) m (ck2 a))),.val (kIs (.int .i64 (k:Int))),.val (kIs (.pointer (some ⟨gk2 a,5 * k,none⟩))),.val (kQ (P a k)),.val (kQ (f)),.val (kIs (.slice (some ⟨go,0,none⟩) n n)),.val (kIs (.int .i64 (r:Int))),.val (kIs (.pointer (some ⟨go,r,none⟩))),.val (kIs (.slice (some ⟨gk2 r,0,none⟩) m (ck2 r))),.val (kIs (.int .i64 (k:Int))),.val (kIs (.pointer (some ⟨gk2 r,5 * k,none⟩))),.val (kQ (P r k)),.val (kQ (f.mul (P r k))),.val (kQ ((P a k).sub (f.mul (P r k)))),.val (kIs (.pointer (some ⟨gk2 a,5 * k,none⟩)))]
             ?fl2 ?hfl2 kR kR kR kR kR ⟨Stab.b (stab_is _),Stab.b (stab_is _),Stab.b (stab_is _),Stab.b (stab_is _),Stab.b (stab_is _),Stab.b (stab_is _),Stab.b (stab_is _),Stab.b (stab_is _),Stab.b (stab_is _),Stab.b (stab_is _),Stab.b (stab_is _),Stab.b (stab_q _),Stab.b (stab_q _),Stab.b (stab_is _),Stab.b (stab_is _),Stab.b (stab_is _),Stab.b (stab_is _),Stab.b (stab_is _),Stab.b (stab_is _),Stab.b (stab_q _),Stab.b (stab_q _),Stab.b (stab_q _),Stab.b (stab_is _),trivial⟩ sP (ol:=_) rfl kR ⟨obN (uMf rfl .fr),obN (uMf rfl .fr),obN (uIr rfl (.is 0) (.is 1) ha),obN (uLr' rfl (.is 2) fun W hb=>(HLk.out.below hb).cell ha),obN (uMf rfl .fr),obN (uMf rfl .fr),obN (uMf rfl .fr),obN (uIr rfl (.is 5) (.is 6) ha),obN (uLr' rfl (.is 7) fun W hb=>(HLk.out.below hb).cell ha),obN (uMf rfl .fr),obN (uIq rfl (.is 8) (.is 9) hk),obN (uQe rfl (.is 10) (fun W hb=>(HLk.out.below hb).rows _ ha) (lL hk (HC2.out _ ha)) hk),obN (uQe rfl .fr (fun W hb=>HF.out.below hb) (by omega:0 < 1) trivial),obN (uMf rfl .fr),obN (uMf rfl .fr),obN (uIr rfl (.is 13) (.is 14) hrn),obN (uLr' rfl (.is 15) fun W hb=>(HLk.out.below hb).cell hrn),obN (uMf rfl .fr),obN (uIq rfl (.is 16) (.is 17) hk),obN (uQe rfl (.is 18) (fun W hb=>(HLk.out.below hb).rows _ hrn) (lL hk (HC2.out _ hrn)) hk),obN (uC2 rfl (.at 12) (.at 19) fun _ W hb h=>HMU.out W _ _ (pg 12 h) (pg 19 h)),obN (uC2 rfl (.at 11) (.at 20) fun _ W hb h=>HSU.out W _ _ (pg 11 h) (pg 20 h)),obN (uIq rfl (.is 3) (.is 4) hk),trivial⟩ ?_
            case hfl2=>intro ts; simp only [fillT,zA,Nat.reduceAdd,sA,sB,sC]; rfl
            intro ts W9 a9 ha9 hb9 hh K hK
            have hz:IsQ W9 (ts 21) ((P a k).sub (f.mul (P r k))):=hh 21 sP
            have hx:ts 22 = _:=hh 22 sP
            have ex:=(ha9 126).trans (by kernel_rfl:_ = ts 22)
            have ez:=(ha9 125).trans (by kernel_rfl:_ = ts 21)
            have HK:=hid hK
            clear hK hh
            have hcap:=lL hk (HC2.out a ha)
            refine ⟨wp_store_qe rfl (k:=k) (ex.trans hx) ez ((HLk.out.below hb9).rows a ha) hcap hz fun W4 hbut hext hrow=>⟨rfl,HK.out _ ?_⟩⟩
            have HF4:=hid ((HF.out.below hb9).but hbut hext (Ne.symm (HG.out a ha)))
            have HL4:=hid (show RowsQ w.heap.size W4 go gk2 (fun _=>m) ck2 n n (fun _ j=>j < m) (clrP G2 r c a (k + 1)) by
             rw [<- clrP_next G2 r c a k oM hck,<- HZe.out,<- HPe.out]
             refine ((HLk.out.below hb9).set ha hbut hext hrow).to fun i j hi hj hv=>⟨?_,rfl⟩
             by_cases e:i = a
             ·rw [e,upf_same]; exact .inl hv
             ·rw [upf_other _ _ e]; exact hv)
            have KB4:=hid (hbut.below (bT KBk.out hb9) (HLk.out.sep.los a ha))
            clear HK hz hx ex ez hbut hext hrow HLk KBk HF hb9 ha9 HZe HPe HMU HSU
            go_wp2
            go_roundw
            case rel=>exact ⟨k + 1,by go_num,oM,oM,HL4.out,HF4.out,KB4.out⟩
            case measure=>exact mS
           ·obtain rfl:m = k:=oM
            have HL4:=hid (show RowsQ w.heap.size wr go gk2 (fun _=>m) ck2 n n (fun _ j=>j < m) (clrP G2 r c (a + 1) c) from HLk.out.to fun i j hi hj hv=>⟨hv,by rw [HPe.out]; exact clrP_shut G2 r c a m i j hv⟩)
            clear HLk
            go_wp2
            go_roundw
            case rel=>exact ⟨a + 1,by go_num,oM,oM,HL4.out,KBk.out⟩
            case measure=>exact mS
         ·obtain rfl:n = a:=oM
          have HL3:=hid (show RowsQ w.heap.size wr go gk2 (fun _=>m) ck2 n n (fun _ j=>j < m) (clrQ G2 r c n) by rw [<- clrP_all,<- HHe.out]; exact HLa.out)
          clear HLa
          go_wp2
          go_roundw
          case rel =>
           exact ⟨r + 1,c + 1,o2,gk2,ck2,_,by go_num,rfl,by go_num,oM,oM,HE2.out,HL3.out,HC2.out,KBa.out,by rw [<- clrP_all]; exact sz_clrP HS2.out hrn hc n c⟩
          case measure=>exact mS
      ·have hzp:G p c = .zero:=of_decide_eq_true HZB.out.symm
       have HZ2:=hid (show ∀ a,r <= a -> a < p + 1 -> G a c = .zero from fun a h1 h2=>by
        by_cases e:a = p
        ·rw [e]; exact hzp
        ·exact HZS.out a h1 oM)
       clear hzp HZB
       go_wp2
       go_roundw
       case rel=>exact ⟨p + 1,by go_num,oM,oM,HZ2.out,HL8.out,KB8.out⟩
       case measure=>exact mS
     ·obtain rfl:n = p:=oM
      have hpv:=pivF_no HZS.out
      have HRf:=hid (show R = echQ n (m - (c + 1)) (c + 1) r G o by rw [HE.out,show m - c = (m - (c + 1)) + 1 by omega,echQ,if_pos hrn,if_pos (by rw [hpv]; omega)])
      have hpl:decide ((n:Int) < (n:Int)) = false:=sP
      clear hpv HZS
      go_upto_region 8 with fail
      refine region_litA [.val (kIs (.int .i64 (n:Int))),.val (kIs (.slice (some ⟨go,0,none⟩) n n)),.val (kIs (.int .i64 (n:Int))),.val (kIs (.bool false)),.val (kIs (.bool false)),.val (kIs (undef)),.val (kIs (undef)),.val (kIs (undef)),.val (kIs (undef)),.val (kIs (undef)),.val (kIs (undef)),.val (kIs (undef)),.val (kIs (undef)),.val (kIs (.bool false))]
       ?fl4 ?hfl4 kR kR kR kR kR ⟨Stab.b (stab_is _),Stab.b (stab_is _),Stab.b (stab_is _),Stab.b (stab_is _),Stab.b (stab_is _),Stab.b (stab_is _),Stab.b (stab_is _),Stab.b (stab_is _),Stab.b (stab_is _),Stab.b (stab_is _),Stab.b (stab_is _),Stab.b (stab_is _),Stab.b (stab_is _),Stab.b (stab_is _),trivial⟩ sP ⟨obN (uMf rfl .fr),obN (uMf rfl .fr),obN (uLen rfl (.is 1) uM),obN (uBn rfl (.is 0) (.is 2) fun w=>sG),obN (uMv 3),obZ 4,obZ 4,obZ 4,obZ 4,obZ 4,obZ 4,obZ 4,obZ 4,obN (uPf rfl (.is 4) .k),trivial⟩ ?_
      case hfl4=>intro ts; simp only [fillT,zA,Nat.reduceAdd,sA,sB,sC]; rfl
      intro ts W8 hb8 hh hap
      have e13:=held_is (hh 13 sP) rfl
      simp only [e13]
      clear hh hap e13
      have HL8:=hid (HL.out.below hb8)
      have KB8:=hid (bT KB.out hb8)
      clear HL KB hb8
      go_wp2
      go_roundw
      case rel=>exact ⟨r,c + 1,o,gk,ck,G,rfl,rfl,by go_num,oM,oM,HRf.out,HL8.out,HC.out,KB8.out,HS.out⟩
      case measure=>exact mS
   ·have HRf:=hid (show R = (G,r,o) by rw [HE.out,show m - c = (m - (c + 1)) + 1 by omega,echQ,if_neg hrn])
    have hd1:decide ((c:Int) < (m:Int)) = true:=sO
    have hd2:decide ((r:Int) < (n:Int)) = false:=sO
    go_wp2_with fail
    refine (HCL.out _ KB.out).mono ?_
    rintro e W3 ⟨rfl,rfl⟩
    go_wp2
    go_ret3
    exact ⟨go,gk,ck,by rw [HRf.out]; rfl,by rw [HRf.out]; exact HL.out,HC.out,KB.out⟩
  ·have HRf:=hid (show R = (G,r,o) by rw [HE.out,show m - c = 0 by omega,echQ])
   have hd1:decide ((c:Int) < (m:Int)) = false:=sO
   go_wp2_with fail
   refine (HCL.out _ KB.out).mono ?_
   rintro e W3 ⟨rfl,rfl⟩
   go_wp2
   go_ret3
   exact ⟨go,gk,ck,by rw [HRf.out]; rfl,by rw [HRf.out]; exact HL.out,HC.out,KB.out⟩
theorem rSquare_any (w:World) (v:Value) (n:Nat) (ml:Nat -> Nat) (F:Nat -> Nat -> Cx) (h:QSS w v n ml F) (hn:n <= 1099511627776) (hml:∀ i,i < n -> ml i <= 1099511627776) :
  Calls Tryz.prog 48 #[v] w fun e w'=>∃ b,e = .returned (.bool b) /\ (b = true ↔ Vld n ml /\ n = (if n = 0 then 0 else ml 0)) /\ Below w.heap.size w w':=by
 have HV:=hid (rValid_any w v n ml F h hn hml)
 have HC:=hid (fun W (hb:Below w.heap.size w W)=>rColumns_any W v n ml F (h.below hb))
 obtain ⟨A,c,rfl,-⟩:=h
 obtain ⟨m,hm⟩:∃ m,m = (if n = 0 then 0 else ml 0):=⟨_,rfl⟩
 rw [<- hm] at HC ⊢
 clear hm hml
 go_enter Tryz.func48,Tryz.ntmps48
 go_wp2_with fail
 refine HV.out.mono ?_
 rintro e W2 ⟨b,rfl,hb,hB⟩
 have HB2:=hid hB
 have HV2:=hid hb
 clear hb hB HV
 cases b
 ·go_wp2
  go_ret
  exact ⟨false,rfl,by have:=HV2.out; simp at this; simp [this],HB2.out⟩
 ·go_wp2_with fail
  refine (HC.out _ HB2.out).mono ?_
  rintro e W3 ⟨rfl,rfl⟩
  go_wp2
  go_ret
  refine ⟨_,rfl,?_,HB2.out⟩
  have:=HV2.out.1 (by trivial)
  simp [this]
  omega
theorem vld_mat {n m:Nat} (hn:n <= 32) (hm:m <= 32):Vld n (fun _=>m):=⟨hn,fun _ _=>⟨rfl,hm⟩⟩
theorem rRank_any (w:World) (ga:Nat) (gi:Nat -> Nat) (n m cap s:Nat) (F:Nat -> Nat -> Cx) (h:MatQ w ga gi n m F) (hn0:0 < n ∨ m = 0) (hn:n <= 32) (hm:m <= 32) (hS:∀ a b,a < n -> b < m -> Sz (F a b) s) (h5:szE s n < 549755813888) :
  Calls Tryz.prog 22 #[.slice (some ⟨ga,0,none⟩) n cap] w fun e w'=>e = .returned (.tuple #[.int .i64 ((rkS n m 0 0 F:Nat):Int),.int .i64 0]) /\ Below w.heap.size w w':=by
 have HV:=hid (rValid_any w _ n _ F (h.qss cap) oM fun _ _=>oM)
 have HE:=hid (fun W (hb:Below w.heap.size w W)=>rEchelon_any W ga gi n m cap s F (h.below hb) hn0 oM oM hS h5)
 have HV3:=hid (vld_mat hn hm)
 rw [<- ech_rank n m 0 0 F F false fun _ _ _=>rfl]
 generalize echQ n m 0 0 F false = R at *
 clear h hS
 go_enter Tryz.func22,Tryz.ntmps22
 go_wp2_with fail
 refine HV.out.mono ?_
 rintro e W2 ⟨b,rfl,hb,hB⟩
 obtain rfl:b = true:=hb.2 HV3.out
 have HB2:=hid hB
 clear hb hB HV
 go_wp2_with fail
 refine (HE.out _ HB2.out).mono ?_
 rintro e W3 ⟨go,gk,ck,rfl,-,-,hB⟩
 have HB3:=hid (bT HB2.out hB)
 clear hB
 go_wp2
 go_ret2
 exact ⟨rfl,HB3.out⟩
end Go.Proofs.YtffegeaflohfhaaGreatDoor
