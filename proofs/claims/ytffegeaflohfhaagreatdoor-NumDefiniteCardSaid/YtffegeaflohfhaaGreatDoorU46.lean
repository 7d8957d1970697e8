import Derived.Test.YtffegeaflohfhaaGreatDoorU39
import Derived.Test.YtffegeaflohfhaaGreatDoorU43
import Derived.Test.YtffegeaflohfhaaGreatDoorU45
import Derived.Test.YtffegeaflohfhaaGreatDoorU15
import Derived.Test.YtffegeaflohfhaaGreatDoorU27
import Derived.Test.YtffegeaflohfhaaGreatDoorU35
import Derived.Test.YtffegeaflohfhaaGreatDoorU36
import Derived.Test.YtffegeaflohfhaaGreatDoorS02
set_option linter.unusedVariables false
set_option linter.unusedSimpArgs false
set_option maxRecDepth 100000
set_option maxHeartbeats 8000000
namespace Go.Proofs.YtffegeaflohfhaaGreatDoor
open Go.RowKit
theorem hermitianN_all (w:World) (ga:Nat) (gi:Nat -> Nat) (n s:Nat) (F:Nat -> Nat -> Cx) (hA:MatAt w ga gi n n F) (hn1:n <= 1073741824) (hS:∀ a b,a < n -> b < n -> Sz (F a b) s) (hs:s < 549755813888) :
  Calls Tryz.prog 87 #[.slice (some ⟨ga,0,none⟩) n n] w (RetB w (Hm n 0 F)):=by
 have HA0:=hid hA
 have HS:=hid hS
 have HCJ:=hid (fun W v {x} (h:IsNum W v x)=>conjN_any v x W h)
 clear hA hS
 go_enter Tryz.func87,Tryz.ntmps87
 go_wp2_with fail
 go_loopw [8] (fun iv wx=>∃ i:Nat,iv = .int .i64 (i:Int) /\ i <= n /\ (∀ a b,a < i -> b <= a -> F a b = (F b a).conj) /\ Below w.heap.size w wx) (fun iv _=>n - (intOf iv).toNat)
 case atStart=>exact ⟨0,rfl,oM,fun a b ha=>absurd ha oM,Below.refl _ _⟩
 case round =>
  obtain ⟨i,rfl,hin,hE,hB⟩:=hrel
  have HE:=hid hE
  have KB:=hid hB
  clear hE hB
  by_cases hi:i < n
  ·have hc:=(HA0.out.below KB.out).cell hi
   go_wp2_with fail
   clear hc
   go_loopw [5] (fun kv wx=>∃ k:Nat,kv = .int .i64 (k:Int) /\ k <= i + 1 /\ (∀ b,b < k -> F i b = (F b i).conj) /\ Below w.heap.size w wx) (fun kv _=>i + 1 - (intOf kv).toNat)
   case atStart=>exact ⟨0,rfl,oM,fun b hb=>absurd hb oM,KB.out⟩
   case round =>
    clear KB
    obtain ⟨k,rfl,hki,hF,hB⟩:=hrel
    have HF:=hid hF
    have KB:=hid hB
    have HM:=hid (HA0.out.below hB)
    clear hF hB
    by_cases hk1:k <= i
    ·have hk:k < n:=oM
     have HSM:=hid (fun W v u (k1:IsNum W v (F i k)) (k2:IsNum W u (F k i).conj)=>sameN_any v u _ _ W k1 k2 s (HS.out i k hi hk) (HS.out k i hk hi).conj hs)
     obtain ⟨sb,hsb⟩:∃ sb,sb = decide (F i k = (F k i).conj):=⟨_,rfl⟩
     rw [<- hsb] at HSM
     have HSB:=hid hsb
     clear hsb
     have hd:decide ((k:Int) <= (i:Int)) = true:=sO
     go_upto_region 7 with fail
     refine region_litA [.val (kIs (.slice (some ⟨gi i,0,none⟩) n n)),.val (kIs (.int .i64 (k:Int))),.val (kIs (.pointer (some ⟨(gi i),5 * k,none⟩))),.val (kNum (F i k)),.val (kIs (.slice (some ⟨ga,0,none⟩) n n)),.val (kIs (.int .i64 (k:Int))),.val (kIs (.pointer (some ⟨ga,k,none⟩))),.val (kIs (.slice (some ⟨gi k,0,none⟩) n n)),.val (kIs (.int .i64 (i:Int))),.val (kIs (.pointer (some ⟨(gi k),5 * i,none⟩))),.val (kNum (F k i)),.val (kNum ((F k i).conj)),.val (kIs (.bool sb)),.val (kIs (.bool (!sb)))]
      ?fl2 ?hfl2 kR kR kR kR kR ⟨Stab.b (stab_is _),Stab.b (stab_is _),Stab.b (stab_is _),Stab.b (stab_num _),Stab.b (stab_is _),Stab.b (stab_is _),Stab.b (stab_is _),Stab.b (stab_is _),Stab.b (stab_is _),Stab.b (stab_is _),Stab.b (stab_num _),Stab.b (stab_num _),Stab.b (stab_is _),Stab.b (stab_is _),trivial⟩ sP ⟨obN (uMf rfl .fr),obN (uMf rfl .fr),obN (nIq rfl (.is 0) (.is 1) hk),obN (nNe rfl (.is 2) (fun W hb=>(HM.out.below hb).row hi) hk),obN (uMf rfl .fr),obN (uMf rfl .fr),obN (nIr rfl (.is 4) (.is 5) hk),obN (nLr rfl (.is 6) fun W hb=>(HM.out.below hb).cell hk),obN (uMf rfl .fr),obN (nIq rfl (.is 7) (.is 8) hi),obN (nNe rfl (.is 9) (fun W hb=>(HM.out.below hb).row hk) hi),obN (uC1 rfl (.at 10) fun _ W hb h=>HCJ.out W _ (pg 10 h)),obN (uC2 rfl (.at 3) (.at 11) fun _ W hb h=>cIs (HSM.out W _ _ (pg 3 h) (pg 11 h))),obN (uNt rfl (.is 12)),trivial⟩ ?_
     case hfl2=>intro ts; simp only [fillT,zA,Nat.reduceAdd,sA,sB,sC]; rfl
     intro ts W4 hb4 hh hap
     have e1:=held_is (hh 13 sP) rfl
     simp only [e1]
     clear hh hap e1
     have KB2:=hid (bT KB.out hb4)
     clear hb4 HM KB
     cases sb
     ·have HN:=hid (show ¬ Hm n 0 F from fun h=>of_decide_eq_false HSB.out.symm (h i k oM hi oM hk))
      clear HSB
      go_wp2
      go_ret
      exact ⟨false,rfl,⟨fun h=>absurd h sP,fun h=>absurd h HN.out⟩,KB2.out⟩
     ·have HF2:=hid (show ∀ b,b < k + 1 -> F i b = (F b i).conj from fun b hb=>by
       by_cases e:b = k
       ·rw [e]; exact of_decide_eq_true HSB.out.symm
       ·exact HF.out b oM)
      clear HSB HF
      go_wp2
      go_roundw
      case rel=>exact ⟨k + 1,by go_num,oM,HF2.out,KB2.out⟩
      case measure=>exact mS
    ·have hd:decide ((k:Int) <= (i:Int)) = false:=sO
     have HE2:=hid (show ∀ a b,a < i + 1 -> b <= a -> F a b = (F b a).conj from fun a b ha hb=>by
      by_cases e:a = i
      ·rw [e]; exact HF.out b oM
      ·exact HE.out a b oM hb)
     clear HF HE HM
     go_wp2
     go_roundw
     case rel=>exact ⟨i + 1,by go_num,oM,HE2.out,KB.out⟩
     case measure=>exact mS
  ·obtain rfl:n = i:=oM
   have HH:=hid (show Hm n 0 F from fun a b _ ha _ hb=>by
    rcases Nat.le_total b a with h | h
    ·exact HE.out a b ha h
    ·have:=HE.out b a hb h
     rw [this,Cx.conj_conj])
   clear HE
   go_wp2
   go_ret
   exact ⟨true,rfl,⟨fun _=>HH.out,fun _=>rfl⟩,KB.out⟩
theorem rHermitian_all (w:World) (ga:Nat) (gi:Nat -> Nat) (n cap s:Nat) (F:Nat -> Nat -> Cx) (hA:MatQ w ga gi n n F) (hn1:n <= 1073741824) (hS:∀ a b,a < n -> b < n -> Sz (F a b) s) (hs:s < 549755813888) :
  Calls Tryz.prog 91 #[.slice (some ⟨ga,0,none⟩) n cap] w (RetB w (Hm n 0 F)):=by
 have HA0:=hid hA
 have HS:=hid hS
 have HCJ:=hid (fun W v {x} (h:IsQ W v x)=>rConj_any v x W h)
 clear hA hS
 go_enter Tryz.func91,Tryz.ntmps91
 go_wp2_with fail
 go_loopw [3] (fun iv wx=>∃ i:Nat,iv = .int .i64 (i:Int) /\ i <= n /\ (∀ a b,a < i -> b <= a -> F a b = (F b a).conj) /\ Below w.heap.size w wx) (fun iv _=>n - (intOf iv).toNat)
 case atStart=>exact ⟨0,rfl,oM,fun a b ha=>absurd ha oM,Below.refl _ _⟩
 case round =>
  obtain ⟨i,rfl,hin,hE,hB⟩:=hrel
  have HE:=hid hE
  have KB:=hid hB
  clear hE hB
  by_cases hi:i < n
  ·have hc:=(HA0.out.below KB.out).cell hi
   go_wp2_with fail
   clear hc
   go_loopw [4] (fun kv wx=>∃ k:Nat,kv = .int .i64 (k:Int) /\ k <= i + 1 /\ (∀ b,b < k -> F i b = (F b i).conj) /\ Below w.heap.size w wx) (fun kv _=>i + 1 - (intOf kv).toNat)
   case atStart=>exact ⟨0,rfl,oM,fun b hb=>absurd hb oM,KB.out⟩
   case round =>
    clear KB
    obtain ⟨k,rfl,hki,hF,hB⟩:=hrel
    have HF:=hid hF
    have KB:=hid hB
    have HM:=hid (HA0.out.below hB)
    clear hF hB
    by_cases hk1:k <= i
    ·have hk:k < n:=oM
     have HSM:=hid (fun W v u (k1:IsQ W v (F i k)) (k2:IsQ W u (F k i).conj)=>rSame_any v u _ _ W k1 k2 s (HS.out i k hi hk) (HS.out k i hk hi).conj hs)
     obtain ⟨sb,hsb⟩:∃ sb,sb = decide (F i k = (F k i).conj):=⟨_,rfl⟩
     rw [<- hsb] at HSM
     have HSB:=hid hsb
     clear hsb
     have hd:decide ((k:Int) <= (i:Int)) = true:=sO
     go_upto_region 7 with fail
     refine region_litA [.val (kIs (.slice (some ⟨ga,0,none⟩) n cap)),.val (kIs (.int .i64 (i:Int))),.val (kIs (.pointer (some ⟨ga,i,none⟩))),.val (kIs (.slice (some ⟨gi i,0,none⟩) n n)),.val (kIs (.int .i64 (k:Int))),.val (kIs (.pointer (some ⟨(gi i),5 * k,none⟩))),.val (kQ (F i k)),.val (kIs (.slice (some ⟨ga,0,none⟩) n cap)),.val (kIs (.int .i64 (k:Int))),.val (kIs (.pointer (some ⟨ga,k,none⟩))),.val (kIs (.slice (some ⟨gi k,0,none⟩) n n)),.val (kIs (.int .i64 (i:Int))),.val (kIs (.pointer (some ⟨(gi k),5 * i,none⟩))),.val (kQ (F k i)),.val (kQ ((F k i).conj)),.val (kIs (.bool sb)),.val (kIs (.bool (!sb)))]
      ?fl3 ?hfl3 kR kR kR kR kR ⟨Stab.b (stab_is _),Stab.b (stab_is _),Stab.b (stab_is _),Stab.b (stab_is _),Stab.b (stab_is _),Stab.b (stab_is _),Stab.b (stab_q _),Stab.b (stab_is _),Stab.b (stab_is _),Stab.b (stab_is _),Stab.b (stab_is _),Stab.b (stab_is _),Stab.b (stab_is _),Stab.b (stab_q _),Stab.b (stab_q _),Stab.b (stab_is _),Stab.b (stab_is _),trivial⟩ sP ⟨obN (uMf rfl .fr),obN (uMf rfl .fr),obN (uIr rfl (.is 0) (.is 1) hi),obN (uLr' rfl (.is 2) fun W hb=>(HM.out.below hb).cell hi),obN (uMf rfl .fr),obN (uIq rfl (.is 3) (.is 4) hk),obN (uQe rfl (.is 5) (fun W hb=>(HM.out.below hb).row hi) hk trivial),obN (uMf rfl .fr),obN (uMf rfl .fr),obN (uIr rfl (.is 7) (.is 8) hk),obN (uLr' rfl (.is 9) fun W hb=>(HM.out.below hb).cell hk),obN (uMf rfl .fr),obN (uIq rfl (.is 10) (.is 11) hi),obN (uQe rfl (.is 12) (fun W hb=>(HM.out.below hb).row hk) hi trivial),obN (uC1 rfl (.at 13) fun _ W hb h=>HCJ.out W _ (pg 13 h)),obN (uC2 rfl (.at 6) (.at 14) fun _ W hb h=>cIs (HSM.out W _ _ (pg 6 h) (pg 14 h))),obN (uNt rfl (.is 15)),trivial⟩ ?_
     case hfl3=>intro ts; simp only [fillT,zA,Nat.reduceAdd,sA,sB,sC]; rfl
     intro ts W4 hb4 hh hap
     have e1:=held_is (hh 16 sP) rfl
     simp only [e1]
     clear hh hap e1
     have KB2:=hid (bT KB.out hb4)
     clear hb4 HM KB
     cases sb
     ·have HN:=hid (show ¬ Hm n 0 F from fun h=>of_decide_eq_false HSB.out.symm (h i k oM hi oM hk))
      clear HSB
      go_wp2
      go_ret
      exact ⟨false,rfl,⟨fun h=>absurd h sP,fun h=>absurd h HN.out⟩,KB2.out⟩
     ·have HF2:=hid (show ∀ b,b < k + 1 -> F i b = (F b i).conj from fun b hb=>by
       by_cases e:b = k
       ·rw [e]; exact of_decide_eq_true HSB.out.symm
       ·exact HF.out b oM)
      clear HSB HF
      go_wp2
      go_roundw
      case rel=>exact ⟨k + 1,by go_num,oM,HF2.out,KB2.out⟩
      case measure=>exact mS
    ·have hd:decide ((k:Int) <= (i:Int)) = false:=sO
     have HE2:=hid (show ∀ a b,a < i + 1 -> b <= a -> F a b = (F b a).conj from fun a b ha hb=>by
      by_cases e:a = i
      ·rw [e]; exact HF.out b oM
      ·exact HE.out a b oM hb)
     clear HF HE HM
     go_wp2
     go_roundw
     case rel=>exact ⟨i + 1,by go_num,oM,HE2.out,KB.out⟩
     case measure=>exact mS
  ·obtain rfl:n = i:=oM
   have HH:=hid (show Hm n 0 F from fun a b _ ha _ hb=>by
    rcases Nat.le_total b a with h | h
    ·exact HE.out a b ha h
    ·have:=HE.out b a hb h
     rw [this,Cx.conj_conj])
   clear HE
   go_wp2
   go_ret
   exact ⟨true,rfl,⟨fun _=>HH.out,fun _=>rfl⟩,KB.out⟩
theorem firstClearN_at (w:World) (g n c k0:Nat) (f:Nat -> Cx) (hX:NBlk w g n f) (hn:n <= 1073741824) (hc:c <= k0) (hk0:k0 < n) (hz:∀ k,c <= k -> k < k0 -> f k = .zero) (hnz:f k0 ≠ .zero) :
  Calls Tryz.prog 89 #[.slice (some ⟨g,0,none⟩) n n,.int .i64 c] w fun e w'=>e = .returned (.int .i64 (k0:Int)) /\ Below w.heap.size w w':=by
 have HX0:=hid hX
 have HZ:=hid hz
 have HNZ:=hid hnz
 clear hX hz hnz
 go_enter Tryz.func89,Tryz.ntmps89
 go_wp2
 go_loopw [5] (fun j wr=>∃ k:Nat,j = .int .i64 k /\ c <= k /\ k <= k0 /\ Below w.heap.size w wr) (fun j _=>n - (intOf j).toNat)
 case atStart=>exact ⟨c,rfl,oM,hc,Below.refl _ _⟩
 case round =>
  obtain ⟨k,rfl,hfk,hkn,hB⟩:=hrel
  have KB:=hid hB
  have HX:=hid (HX0.out.below hB)
  clear hB
  have hk:k < n:=oM
  obtain ⟨zb,hzb⟩:∃ zb:Bool,zb = !decide (f k = .zero):=⟨_,rfl⟩
  have HCL:=hid (fun W v (h:IsNum W v (f k))=>clear_any v (f k) W h)
  rw [<- hzb] at HCL
  have HZB:=hid hzb
  clear hzb
  have hd:decide ((k:Int) < (n:Int)) = true:=sO
  go_upto_region 4 with fail
  refine region_litA [.val (kIs (.slice (some ⟨g,0,none⟩) n n)),.val (kIs (.int .i64 (k:Int))),.val (kIs (.pointer (some ⟨g,5 * k,none⟩))),.val (kNum (f k)),.val (kIs (.bool zb))]
   ?fl1 ?hfl1 kR kR kR kR kR ⟨Stab.b (stab_is _),Stab.b (stab_is _),Stab.b (stab_is _),Stab.b (stab_num _),Stab.b (stab_is _),trivial⟩ sP ⟨obN (uMf rfl .fr),obN (uMf rfl .fr),obN (nIq rfl (.is 0) (.is 1) hk),obN (nNe rfl (.is 2) (fun W hb=>HX.out.below hb) hk),obN (uC1 rfl (.at 3) fun _ W hb h=>cIs (HCL.out W _ (pg 3 h))),trivial⟩ ?_
  case hfl1=>intro ts; simp only [fillT,zA,Nat.reduceAdd,sA,sB,sC]; rfl
  intro ts W4 hb4 hh hap
  have e1:=held_is (hh 4 sP) rfl
  simp only [e1]
  clear hh hap e1
  have KB2:=hid (bT KB.out hb4)
  clear hb4 HX KB
  by_cases hk2:k < k0
  ·obtain rfl:zb = false:=by rw [HZB.out,HZ.out k hfk hk2]; rfl
   clear HZB
   go_wp2
   go_roundw
   case rel=>exact ⟨k + 1,by go_num,oM,oM,KB2.out⟩
   case measure=>exact mS
  ·obtain rfl:k0 = k:=oM
   obtain rfl:zb = true:=by rw [HZB.out]; simp [HNZ.out]
   clear HZB
   go_wp2
   go_ret
   exact ⟨rfl,KB2.out⟩
def kNE (x:Cx) (k:Int):Value -> World -> Prop:=fun v W=>∃ u,v = .tuple #[u,.int .i64 k] /\ IsNum W u x
theorem stab_ne (x:Cx) (k:Int):Stab (kNE x k):=fun _ _ _ he ⟨u,e,h⟩=>⟨u,e,IsNum.ext h he⟩
theorem nNE {f:FuncId} {xs:Array Value} {W:World} {x:Cx} {k:Int} (h:Calls Tryz.prog f xs W (RetNumE W x k)):Calls Tryz.prog f xs W fun e w'=>∃ v,e = .returned v /\ kNE x k v w' /\ Below W.heap.size W w' :=
 h.mono fun _ _ ⟨u,h1,h2,h3⟩=>⟨_,h1,⟨u,rfl,h2⟩,h3⟩
section
variable {ops:Array Oper} {kl:List RK} {B:Nat} {w0:World} {a0:Act} {o:Oper} {i:Nat}
theorem nX0 (j:Nat) {s:Nat} {x:Cx} {k:Int} (ho:o.op = .extract (.tmp s) 0) (hs:∀ ts,slot ops a0 ts s = ts j:=by intro ts; kernel_rfl) (hk:rk kl j = .val (kNE x k):=by rfl) (hj:predB ops i j = true:=by kernel_rfl):ObU Tryz.prog ops kl B w0 a0 o i (kNum x) :=
 fun ts W a ha hb hB hp K hK=>⟨by
  obtain ⟨u,e,hu⟩:=(hp j hj).of hk
  have e1:=(ha s).trans ((hs ts).trans e)
  unfold Oper.wp execOp
  simp only [ho,e1]
  simp [go_sem]
  exact hK _ _ hu rfB⟩
theorem nX1 (j:Nat) {s:Nat} {x:Cx} {k:Int} (ho:o.op = .extract (.tmp s) 1) (hs:∀ ts,slot ops a0 ts s = ts j:=by intro ts; kernel_rfl) (hk:rk kl j = .val (kNE x k):=by rfl) (hj:predB ops i j = true:=by kernel_rfl):ObU Tryz.prog ops kl B w0 a0 o i (kIs (.int .i64 k)) :=
 fun ts W a ha hb hB hp K hK=>⟨by
  obtain ⟨u,e,hu⟩:=(hp j hj).of hk
  have e1:=(ha s).trans ((hs ts).trans e)
  unfold Oper.wp execOp
  simp only [ho,e1]
  simp [go_sem]
  exact hK _ _ rfl rfB⟩
theorem nSl {g n l q:Nat} {x y:Operand} (ho:o.op = .slice nR x (some y) none none) (hx:Kn ops kl a0 i x (fun _=>.slice (some ⟨g,0,none⟩) n n)) (hy:Kn ops kl a0 i y (fun _=>.int .i64 ((l:Nat):Int))) (hq:q = if n = l then 0 else l) (hl:l <= n):ObU Tryz.prog ops kl B w0 a0 o i (kIs (.slice (some ⟨g,5 * q,none⟩) (n - l) (n - l))) :=
 fun ts W a ha hb hB hp K hK=>⟨by
  have e1:=hx ts W a ha hp
  have e2:=hy ts W a ha hp
  have hl':(l:Int) <= (n:Int):=oM
  have e3:(Instr.sliceAt nR (.slice (some ⟨g,0,none⟩) n n) (some (.int .i64 (l:Int))) none none).run Tryz.prog W = .ok (.slice (some ⟨g,5 * q,none⟩) (n - l) (n - l)) W:=by
   have e4:(⟨g,0,none⟩:Addr).add (l * 5) = ⟨g,5 * l,none⟩:=by
    unfold Addr.add
    split <;> simp_all
    omega
   simp [Instr.sliceAt,Instr.slice,run_underlying vR,Instr.sliceBounds,Instr.sliceBound,asIntOf,Sem.run_bind,svQ,hl,hl',hq]
   by_cases h:n = l
   ·simp [h]
   ·simp [h,e4]
  unfold Oper.wp execOp
  simp only [ho,e1,e2,Option.map_some,Option.map_none]
  simp only [Sem.run_bind,e3,Sem.run_pure,Result.andThen_ok]
  exact hK _ _ rfl rfB⟩
end
theorem tilted_any (w:World) (v u:Value) (z t:Cx) (p:Nat) (hv:IsNum w v z) (hu:IsNum w u t) (hz:Sz z p) (ht:Sz t p) (hz0:z ≠ .zero) (hp:p <= 1000000) (hT:Tab w) :
  Calls Tryz.prog 90 #[v,u] w (RetNum w (tilt z t)):=by
 have s1:Sz (Cx.int 1) 1:=Sz.int (by rw [show (1:Int).natAbs = 1 from rfl,wl_one]; omega) oM
 have s2:=ht.mul ht
 have s3:=s1.add s2
 have s4:=hz.norm
 have s5:=s3.div s4
 have hn0:z.norm ≠ .zero:=fun e=>by
  have:=congrArg Cx.re e
  exact nrm_pos_ne hz0 this
 have HI1:=hid (fun W=>int_any 1 W oM oM)
 have HMU0:=hid (fun W (hb:Below w.heap.size w W) v u (k1:IsNum W v t) (k2:IsNum W u t)=>mulN_any v u _ _ W k1 k2 _ _ ht ht oM (hT.below hb))
 have HAD0:=hid (fun W (hb:Below w.heap.size w W) v u (k1:IsNum W v (Cx.int 1)) (k2:IsNum W u (t.mul t))=>addN_any v u _ _ W k1 k2 _ _ s1 s2 oM (hT.below hb))
 have HNR0:=hid (fun W (hb:Below w.heap.size w W) v (k1:IsNum W v z)=>normN_any v z W k1 p hz oM (hT.below hb))
 have HDV0:=hid (fun W (hb:Below w.heap.size w W) v u (k1:IsNum W v ((Cx.int 1).add (t.mul t))) (k2:IsNum W u z.norm)=>(show Calls Tryz.prog 38 #[v,u] W (RetNumE W (((Cx.int 1).add (t.mul t)).div z.norm) 0) from by
  have:=divN_any v u _ _ W k1 k2 _ _ s3 s4 oM (hT.below hb)
  rwa [if_neg hn0] at this))
 have HMS:=hid (fun W (hb:Below w.heap.size w W) v u (k1:IsNum W v (((Cx.int 1).add (t.mul t)).div z.norm)) (k2:IsNum W u z)=>mulN_any v u _ _ W k1 k2 _ _ s5 hz oM (hT.below hb))
 have HNG:=hid (fun W v {x} (h:IsNum W v x)=>negN_any v x W h)
 obtain ⟨A1,n1,c1,p1,A1b,n1b,c1b,p1b,A1c,n1c,c1c,a1,b1,d1,rfl,-⟩:=hv.parts
 obtain ⟨A2,n2,c2,p2,A2b,n2b,c2b,p2b,A2c,n2c,c2c,a2,b2,d2,rfl,-⟩:=hu.parts
 have HV:=hid hv
 have HU:=hid hu
 clear s1 s2 s3 s4 s5 hv hu hz ht hz0 hn0 hT
 go_enter Tryz.func90,Tryz.ntmps90
 go_upto_region 1 with fail
 obtain ⟨W1,hW1⟩:∃ W1:World,W1 = (((w.alloc (.cells #[.slice A1 n1 c1,.bool p1,.slice A1b n1b c1b,.bool p1b,.slice A1c n1c c1c] 35)).alloc (.cells #[.slice A2 n2 c2,.bool p2,.slice A2b n2b c2b,.bool p2b,.slice A2c n2c c2c] 35)).alloc (.cells zNum 35)):=⟨_,rfl⟩
 have B1:Below w.heap.size w W1:=by rw [hW1]; exact bel
 have z1:W1.heap.size = w.heap.size + 3:=by rw [hW1]; simp
 have HX0:=hid (show W1.heap[w.heap.size]? = some (.cells #[.slice A1 n1 c1,.bool p1,.slice A1b n1b c1b,.bool p1b,.slice A1c n1c c1c] 35 (0,0)) by rw [hW1]; exact ((below_alloc _ _).block w.heap.size sO).trans (heap_alloc2_old _ _ _))
 have X1:W1.heap[w.heap.size + 1]? = some (.cells #[.slice A2 n2 c2,.bool p2,.slice A2b n2b c2b,.bool p2b,.slice A2c n2c c2c] 35 (0,0)):=by
  rw [hW1,show w.heap.size + 1 = (w.alloc (.cells #[.slice A1 n1 c1,.bool p1,.slice A1b n1b c1b,.bool p1b,.slice A1c n1c c1c] 35)).heap.size by simp]
  exact ((below_alloc _ _).block _ sP).trans (heap_alloc_new _ _)
 have HX2:=hid (show W1.heap[w.heap.size + 1 + 1]? = some (.cells zNum 35 (0,0)) by
  rw [hW1,show w.heap.size + 1 + 1 = ((w.alloc (.cells #[.slice A1 n1 c1,.bool p1,.slice A1b n1b c1b,.bool p1b,.slice A1c n1c c1c] 35)).alloc (.cells #[.slice A2 n2 c2,.bool p2,.slice A2b n2b c2b,.bool p2b,.slice A2c n2c c2c] 35)).heap.size by simp]
  exact heap_alloc_new _ _)
 have HZ1:=hid (NBlk.one' HX0.out (HV.out.below B1))
 have HT1:=hid (NBlk.one' X1 (HU.out.below B1))
 unfold zNum at hW1
 rw [<- hW1]
 have KB1:=hid B1
 have HMU:=hid (fun W (hb:Below W1.heap.size W1 W) v u k1 k2=>HMU0.out W (bT B1 hb) v u k1 k2)
 have HAD:=hid (fun W (hb:Below W1.heap.size W1 W) v u k1 k2=>HAD0.out W (bT B1 hb) v u k1 k2)
 have HNR:=hid (fun W (hb:Below W1.heap.size W1 W) v k1=>HNR0.out W (bT B1 hb) v k1)
 have HDV:=hid (fun W (hb:Below W1.heap.size W1 W) v u k1 k2=>HDV0.out W (bT B1 hb) v u k1 k2)
 clear hW1 X1 B1
 refine region_litA [.val (kNum (.int 1)),.val (kNum (t)),.val (kNum (t)),.val (kNum (t.mul t)),.val (kNum ((Cx.int 1).add (t.mul t))),.val (kNum (z)),.val (kNum (z.norm)),.val (kNE (((Cx.int 1).add (t.mul t)).div z.norm) 0),.val (kNE (((Cx.int 1).add (t.mul t)).div z.norm) 0),.val (kNum (((Cx.int 1).add (t.mul t)).div z.norm)),.val (kIs (.int .i64 0)),.box 35 zNum,.put 11 9,.val (kIs (.int .i64 0))]
  ?fl1 ?hfl1 kR kR kR kR kR ⟨stab_num _,stab_num _,stab_num _,stab_num _,stab_num _,stab_num _,stab_num _,stab_ne _ _,stab_ne _ _,stab_num _,stab_is _,stab_is _,trivial⟩ sP ⟨obN (uC1 rfl .k fun _ W hb h=>HI1.out W),obN (nNe (k:=0) (f:=fun _=>t) rfl .fr (fun W hb=>HT1.out.below hb) (by omega:0 < 1)),obN (nNe (k:=0) (f:=fun _=>t) rfl .fr (fun W hb=>HT1.out.below hb) (by omega:0 < 1)),obN (uC2 rfl (.at 1) (.at 2) fun _ W hb h=>HMU.out W hb _ _ (pg 1 h) (pg 2 h)),obN (uC2 rfl (.at 0) (.at 3) fun _ W hb h=>HAD.out W hb _ _ (pg 0 h) (pg 3 h)),obN (nNe (k:=0) (f:=fun _=>z) rfl .fr (fun W hb=>HZ1.out.below hb) (by omega:0 < 1)),obN (uC1 rfl (.at 5) fun _ W hb h=>HNR.out W hb _ (pg 5 h)),obN (uC2 rfl (.at 4) (.at 6) fun _ W hb h=>nNE (HDV.out W hb _ _ (pg 4 h) (pg 6 h))),obN (uMv 7),obN (nX0 8 rfl),obN (nX1 8 rfl),alloc_num,store_num _,obN (uAs 10),trivial⟩ ?_
 case hfl1=>intro ts; simp only [fillT,zA,Nat.reduceAdd,sA,sB,sC]; rfl
 intro ts W2 hb2 hh hap
 obtain ⟨g7,A7,n7,c7,p7,A7b,n7b,c7b,p7b,A7c,n7c,c7c,e7,lo7,z7,X7,N7⟩:=held_box (x:=((Cx.int 1).add (t.mul t)).div z.norm) (hh 11 sP) rfl (hh 12 sP) rfl (hh 9 sP) rfl
 have e8:=held_is (hh 13 sP) rfl
 simp only [e7,e8]
 clear hh hap e7 e8
 have x7:=bx5 X7
 obtain ⟨f0,f1,f2,f3,f4,-,-,-,-,-⟩:=x7
 obtain ⟨d0,d1,d2,d3,d4,-,-,-,-,-⟩:=bx5 ((hb2.block w.heap.size oM).trans HX0.out)
 have hX2:=(hb2.block (w.heap.size + 1 + 1) oM).trans HX2.out
 have KB2:=hid (bT KB1.out hb2)
 have hz2:=hb2.size
 have HN7:=hid N7
 have HX22:=hid hX2
 clear X7 N7 z7 lo7 hb2 hX2 HX2 HX0 HZ1 HT1 KB1
 go_wp2_with fail
 refine (HMS.out W2 KB2.out _ _ HN7.out (HV.out.below KB2.out)).mono ?_
 rintro e W3 ⟨v3,rfl,h3,hb3⟩
 have KB3:=hid (bT KB2.out hb3)
 have X3:=(hb3.block (w.heap.size + 1 + 1) oM).trans HX22.out
 have hz3:=hb3.size
 have H3:=hid h3
 have HX3:=hid X3
 clear hb3 h3 X3 f0 f1 f2 f3 f4 d0 d1 d2 d3 d4
 go_wp2_with fail
 refine (HNG.out W3 _ H3.out).mono ?_
 rintro e W4 ⟨v4,rfl,h4,hb4⟩
 obtain ⟨A4,n4,c4,p4,A4b,n4b,c4b,p4b,A4c,n4c,c4c,a4,b4,d4,rfl,-⟩:=h4.parts
 have KB4:=hid (bT KB3.out hb4)
 have X4:=(hb4.block (w.heap.size + 1 + 1) oM).trans HX3.out
 unfold zNum at X4
 obtain ⟨f0,f1,f2,f3,f4,k0,k1,k2,k3,k4⟩:=bx5 X4
 have NB:=hid (NumBox.nil f0 f1 f2 f3 f4)
 have H4:=hid h4
 clear hb4 h4 X4
 go_wp2
 refine bodyPost_ret (v:=.agg #[.slice A4 n4 c4,.bool p4,.slice A4b n4b c4b,.bool p4b,.slice A4c n4c c4c]) (by simp [results,Tryz.results90]; exact run_load5 NB.out _ _ _ _ _) rfl ?_
 exact RetNum.box KB4.out oM NB.out H4.out _ _ _ _ _
def zX:Nat -> Nat
 | 0=>30000
 | t + 1=>4 * zX t + 15000
theorem zX_mono:∀ {a b:Nat},a <= b -> zX a <= zX b:=by
 intro a b h
 induction h with
 | refl=>exact Nat.le_refl _
 | step _ ih=>rw [zX]; omega
theorem cmp1_sz {n i X:Nat} {R:Nat -> Nat -> Cx} {v:Nat -> Cx} (hi:i < n) (hn:n <= 5) (hR:∀ a b,a < n -> b < n -> Sz (R a b) 2000) (hv:∀ j,j < n -> Sz (v j) X) (hX:2000 <= X) :
  Sz (sm (fun j=>(R i (i + 1 + j)).mul (v (i + 1 + j))) 0 (n - (i + 1))) (4 * X + 8010) /\ ∀ j,j < n -> Sz (cmp1 n i R v j) (4 * X + 15000):=by
 have h1:Sz (sm (fun j=>(R i (i + 1 + j)).mul (v (i + 1 + j))) 0 (n - (i + 1))) (4 * X + 8010):=by
  refine (sm_sz (p:=2000 + X + 1) (n - (i + 1)) 0 fun j _ hj=>(hR i (i + 1 + j) hi oM).mul (hv (i + 1 + j) oM)).mono ?_
  have:=Nat.mul_le_mul_right (2000 + X + 1 + 1) (show n - (i + 1) <= 4 by omega)
  omega
 refine ⟨h1,fun j hj=>?_⟩
 unfold cmp1
 split
 ·exact (hv j hj).mono oM
 ·by_cases e:j = i
  ·rw [e,upf_same]
   exact (h1.neg.div (hR i i hi hi)).mono oM
  ·rw [upf_other _ _ e]
   exact (hv j hj).mono oM
theorem cmpV_sz {n c:Nat} {R:Nat -> Nat -> Cx} {v:Nat -> Cx} (hn:n <= 5) (hc:c < n) (hR:∀ a b,a < n -> b < n -> Sz (R a b) 2000) (hv:∀ j,j < n -> Sz (v j) 30000):∀ t,t <= c -> ∀ j,j < n -> Sz (cmpV n c R v t j) (zX t):=by
 intro t
 induction t with
 | zero=>intro _ j hj; exact hv j hj
 | succ t ih =>
  intro ht j hj
  have h0:2000 <= zX t:=Nat.le_trans dE (zX_mono (Nat.zero_le t))
  exact (cmp1_sz oM hn hR (ih oM) h0).2 j hj
theorem completed_any (B:Nat) (w:World) (ga gw:Nat) (gi:Nat -> Nat) (n c:Nat) (R:Nat -> Nat -> Cx) (v:Nat -> Cx) (hA:MatAt w ga gi n n R) (hW:NBlk w gw n v) (hB:B <= gw) (hne:ga ≠ gw /\ ∀ i,i < n -> gi i ≠ gw) (hn:n <= 5) (hc:c < n) (hBw:B <= w.heap.size) (hTB:1 < B) (hT:Tab w) (hR:∀ a b,a < n -> b < n -> Sz (R a b) 2000) (hv:∀ j,j < n -> Sz (v j) 30000) :
  Calls Tryz.prog 88 #[.slice (some ⟨ga,0,none⟩) n n,.slice (some ⟨gw,0,none⟩) n n,.int .i64 (c:Int)] w fun e w'=>e = .returned (.slice (some ⟨gw,0,none⟩) n n) /\ NBlk w' gw n (cmpV n c R v c) /\ Below B w w':=by
 have HSV:=hid (cmpV_sz hn hc hR hv)
 have HSR:=hid hR
 have HA0:=hid hA
 have HW0:=hid hW
 have HT0:=hid (fun W (hb:Below B w W)=>hT.belowB hTB hb)
 have HNE:=hid hne
 have HNG:=hid (fun W v {x} (h:IsNum W v x)=>negN_any v x W h)
 have hMX:zX c <= 10000000:=Nat.le_trans (zX_mono (show c <= 4 by omega)) dE
 clear hA hW hT hTB hR hv hne
 go_enter Tryz.func88,Tryz.ntmps88
 go_wp2
 go_loopw [7] (fun iv wx=>∃ t:Nat,iv = .int .i64 ((c:Int) - 1 - t) /\ t <= c /\ MatAt wx ga gi n n R /\ NBlk wx gw n (cmpV n c R v t) /\ Below B w wx) (fun iv _=>(intOf iv + 1).toNat)
 case atStart=>exact ⟨0,by go_num,oM,HA0.out,HW0.out,Below.refl _ _⟩
 case round =>
  obtain ⟨t,rfl,htc,hM,hW,hB'⟩:=hrel
  have HM:=hid hM
  have HW2:=hid hW
  have KB:=hid hB'
  clear hM hW hB'
  by_cases ht:t < c
  ·obtain ⟨i,hie⟩:∃ i:Nat,i = c - 1 - t:=⟨_,rfl⟩
   have e1:(c:Int) - 1 - (t:Int) = (i:Int):=oM
   rw [e1]
   have hi:i < n:=oM
   have HNX:=hid (show cmpV n c R v (t + 1) = cmp1 n i R (cmpV n c R v t) by rw [cmpV,<- hie])
   have hsv:=HSV.out t htc
   have h0:2000 <= zX t:=Nat.le_trans dE (zX_mono (Nat.zero_le t))
   have hzt:zX t <= zX c:=zX_mono htc
   have hD:=(cmp1_sz hi hn HSR.out hsv h0).1
   obtain ⟨V,hV⟩:∃ V,V = cmpV n c R v t:=⟨_,rfl⟩
   rw [<- hV] at HW2 HNX hsv hD
   have HSV2:=hid hsv
   have hd:decide ((0:Int) <= (i:Int)) = true:=sP
   have HCL:=hid (fun W v (h:IsNum W v (R i i))=>clear_any v (R i i) W h)
   obtain ⟨zb,hzb⟩:∃ zb:Bool,zb = !decide (R i i = .zero):=⟨_,rfl⟩
   rw [<- hzb] at HCL
   have HZB:=hid hzb
   have HDS:=hid hD
   have e2:(i:Int) = (c:Int) - 1 - (t:Int):=e1.symm
   have HE2:=hid e2
   clear hzb hV hsv hD e1 e2 hie
   go_upto_region 4 with fail
   refine region_litA [.val (kIs (.slice (some ⟨ga,0,none⟩) n n)),.val (kIs (.int .i64 (i:Int))),.val (kIs (.pointer (some ⟨ga,i,none⟩))),.val (kIs (.slice (some ⟨gi i,0,none⟩) n n)),.val (kIs (.int .i64 (i:Int))),.val (kIs (.pointer (some ⟨(gi i),5 * i,none⟩))),.val (kNum (R i i)),.val (kIs (.bool zb))]
    ?fl2 ?hfl2 kR kR kR kR kR ⟨Stab.b (stab_is _),Stab.b (stab_is _),Stab.b (stab_is _),Stab.b (stab_is _),Stab.b (stab_is _),Stab.b (stab_is _),Stab.b (stab_num _),Stab.b (stab_is _),trivial⟩ sP ⟨obN (uMf rfl .fr),obN (uMf rfl .fr),obN (nIr rfl (.is 0) (.is 1) hi),obN (nLr rfl (.is 2) fun W hb=>(HM.out.below hb).cell hi),obN (uMf rfl .fr),obN (nIq rfl (.is 3) (.is 4) hi),obN (nNe rfl (.is 5) (fun W hb=>(HM.out.below hb).row hi) hi),obN (uC1 rfl (.at 6) fun _ W hb h=>cIs (HCL.out W _ (pg 6 h))),trivial⟩ ?_
   case hfl2=>intro ts; simp only [fillT,zA,Nat.reduceAdd,sA,sB,sC]; rfl
   intro ts W4 hb4 hh hap
   have e1:=held_is (hh 7 sP) rfl
   simp only [e1]
   clear hh hap e1
   have HM:=hid (HM.out.below hb4)
   have HW2:=hid (HW2.out.below hb4)
   have KB2:=hid (KB.out.trans (hb4.mono (Nat.le_trans hBw KB.out.size)))
   clear hb4 KB
   cases zb
   ·have HW3:=hid (show NBlk W4 gw n (cmpV n c R v (t + 1)) by
     rw [HNX.out]
     unfold cmp1
     rw [if_pos (by have:=HZB.out; simpa using this)]
     exact HW2.out)
    clear HZB HW2 HCL
    go_wp2
    go_roundw
    case rel=>exact ⟨t + 1,by rw [HE2.out]; try go_num,oM,HM.out,HW3.out,KB2.out⟩
    case measure=>simp [intOf] <;> omega
   ·have hnz:R i i ≠ .zero:=by have:=HZB.out; simpa using this
    obtain ⟨o,ho⟩:∃ o,o = if n = i + 1 then 0 else i + 1:=⟨_,rfl⟩
    have HO:=hid ho
    obtain ⟨D,hDe⟩:∃ D,D = sm (fun j=>(R i (i + 1 + j)).mul (V (i + 1 + j))) 0 (n - (i + 1)):=⟨_,rfl⟩
    have hDo:D = sm (fun j=>(R i (o + j)).mul (V (o + j))) 0 (n - (i + 1)):=by
     rw [hDe,ho]
     by_cases h:n = i + 1
     ·rw [show n - (i + 1) = 0 by omega]; rfl
     ·rw [if_neg h]
    have hoi:o + (n - (i + 1)) <= n:=by rw [ho]; split <;> omega
    have HDS:=HDS.out
    rw [<- hDe] at HDS
    have HDT:=hid (fun W (hb:Below B w W) (h1:NBlk W (gi i) n (R i)) (h2:NBlk W gw n V)=>(show Calls Tryz.prog 70 #[.slice (some ⟨gi i,5 * o,none⟩) (n - (i + 1)) (n - (i + 1)),.slice (some ⟨gw,5 * o,none⟩) (n - (i + 1)) (n - (i + 1))] W (RetNum W D) from by
     rw [hDo]
     exact dot_any W (gi i) gw o o n n (n - (i + 1)) (n - (i + 1)) _ _ (zX t) (R i) V h1 h2 hoi hoi lR oM (HT0.out W hb) (fun j hj=>(HSR.out i (o + j) hi oM).mono h0) (fun j hj=>HSV2.out (o + j) oM) oM) )
    have HDV:=hid (fun W (hb:Below B w W) v u (k1:IsNum W v D.neg) (k2:IsNum W u (R i i))=>(show Calls Tryz.prog 38 #[v,u] W (RetNumE W (D.neg.div (R i i)) 0) from by
     have:=divN_any v u _ _ W k1 k2 _ _ HDS.neg (HSR.out i i hi hi) oM (HT0.out W hb)
     rwa [if_neg hnz] at this))
    have HUP:=hid (show upf V i (D.neg.div (R i i)) = cmpV n c R v (t + 1) by rw [HNX.out]; unfold cmp1; rw [if_neg hnz,hDe])
    clear hnz ho hDe hDo hoi HDS HZB HCL HNX
    have HW1:=hid (show IntKind.i64.wrap ((i:Int) + 1) = (i:Int) + 1 by simp only [IntKind.wrap]; simp [IntKind.signed,IntKind.bits]; omega)
    go_upto_region 5 with fail
    refine region_lateA [.val (kIs (.slice (some ⟨gw,0,none⟩) n n)),.val (kIs (.int .i64 (i:Int))),.val (kIs (.slice (some ⟨ga,0,none⟩) n n)),.val (kIs (.int .i64 (i:Int))),.val (kIs (.pointer (some ⟨ga,i,none⟩))),.val (kIs (.slice (some ⟨gi i,0,none⟩) n n)),.val (kIs (.int .i64 (i:Int))),.val (kIs (.int .i64 ((i + 1:Nat):Int))),.val (kIs (.slice (some ⟨gi i,5 * o,none⟩) (n - (i + 1)) (n - (i + 1)))),.val (kIs (.slice (some ⟨gw,0,none⟩) n n)),.val (kIs (.int .i64 (i:Int))),.val (kIs (.int .i64 ((i + 1:Nat):Int))),.val (kIs (.slice (some ⟨gw,5 * o,none⟩) (n - (i + 1)) (n - (i + 1)))),.val (kNum (D)),.val (kNum (D.neg)),.val (kIs (.slice (some ⟨ga,0,none⟩) n n)),.val (kIs (.int .i64 (i:Int))),.val (kIs (.pointer (some ⟨ga,i,none⟩))),.val (kIs (.slice (some ⟨gi i,0,none⟩) n n)),.val (kIs (.int .i64 (i:Int))),.val (kIs (.pointer (some ⟨(gi i),5 * i,none⟩))),.val (kNum (R i i)),.val (kNE (D.neg.div (R i i)) 0),.val (kNE (D.neg.div (R i i)) 0),.val (kNum (D.neg.div (R i i))),.val (kIs (.int .i64 0)),.val (kIs (.pointer (some ⟨gw,5 * i,none⟩)))] 25 (fun W=>MatAt W ga gi n n R /\ NBlk W gw n (cmpV n c R v (t + 1)) /\ Below B w W)
     ?fl5 ?hfl5 kR kR kR kR kR ⟨stab_is _,stab_is _,stab_is _,stab_is _,stab_is _,stab_is _,stab_is _,stab_is _,stab_is _,stab_is _,stab_is _,stab_is _,stab_is _,stab_num _,stab_num _,stab_is _,stab_is _,stab_is _,stab_is _,stab_is _,stab_is _,stab_num _,stab_ne _ _,stab_ne _ _,stab_num _,stab_is _,stab_is _,trivial⟩ (by rfl) sP (ol:=_) rfl kR ⟨obN (uMf rfl .fr),obN (uMf rfl .fr),obN (uMf rfl .fr),obN (uMf rfl .fr),obN (nIr rfl (.is 2) (.is 3) hi),obN (nLr rfl (.is 4) fun W hb=>(HM.out.below hb).cell hi),obN (uMf rfl .fr),obN (uBn rfl (.is 6) .k fun w=>by simp [go_sem,HW1.out]),obN (nSl rfl (.is 5) (.is 7) HO.out hi),obN (uMf rfl .fr),obN (uMf rfl .fr),obN (uBn rfl (.is 10) .k fun w=>by simp [go_sem,HW1.out]),obN (nSl rfl (.is 9) (.is 11) HO.out hi),obN (uC2 rfl (.is 8) (.is 12) fun _ W hb h=>HDT.out W (KB2.out.trans (hb.mono (Nat.le_trans hBw KB2.out.size))) ((HM.out.below hb).row hi) (HW2.out.below hb)),obN (uC1 rfl (.at 13) fun _ W hb h=>HNG.out W _ (pg 13 h)),obN (uMf rfl .fr),obN (uMf rfl .fr),obN (nIr rfl (.is 15) (.is 16) hi),obN (nLr rfl (.is 17) fun W hb=>(HM.out.below hb).cell hi),obN (uMf rfl .fr),obN (nIq rfl (.is 18) (.is 19) hi),obN (nNe rfl (.is 20) (fun W hb=>(HM.out.below hb).row hi) hi),obN (uC2 rfl (.at 14) (.at 21) fun _ W hb h=>nNE (HDV.out W (KB2.out.trans (hb.mono (Nat.le_trans hBw KB2.out.size))) _ _ (pg 14 h) (pg 21 h))),obN (uMv 22),obN (nX0 23 rfl),obN (nX1 23 rfl),obN (nIq rfl (.is 0) (.is 1) hi),trivial⟩ sP (o1:=_) rfl (fun B w0=>obN (nX1 23 rfl)) (fun _ _ hb ⟨h1,h2,h3⟩=>⟨h1.below hb,h2.below hb,h3.trans (hb.mono (Nat.le_trans hBw h3.size))⟩) ?store5 ?fin5
    case hfl5=>intro ts; simp only [fillT,zA,Nat.reduceAdd,sA,sB,sC]; rfl
    case store5 =>
     intro ts W9 a9 ha9 hb9 hp K hK
     have hz:IsNum W9 (ts 24) (D.neg.div (R i i)):=pg (q:=kNum (D.neg.div (R i i))) 24 hp
     have hx:ts 26 = _:=pg (q:=kIs (.pointer (some ⟨gw,5 * i,none⟩))) 26 hp
     have ex:=(ha9 48).trans (by kernel_rfl:_ = ts 26)
     have ez:=(ha9 46).trans (by kernel_rfl:_ = ts 24)
     refine ⟨wp_store_elem rfl (k:=i) (ex.trans hx) ez (HW2.out.below hb9) hi hz fun W5 hbut hext hrow=>hK _ ⟨(HM.out.below hb9).butBox hbut hext HNE.out.1 HNE.out.2,by rw [HUP.out] at hrow; exact hrow,hbut.below (KB2.out.trans (hb9.mono (Nat.le_trans hBw KB2.out.size))) hB⟩ hext⟩
    case fin5 =>
     rintro ts W5 ⟨hM,hW,hB5⟩
     have HM5:=hid hM
     have HW5:=hid hW
     have KB5:=hid hB5
     clear hM hW hB5 HM HW2 KB2 HDT HDV HUP
     go_wp2
     go_roundw
     case rel=>exact ⟨t + 1,by rw [HE2.out]; try go_num,oM,HM5.out,HW5.out,KB5.out⟩
     case measure=>simp [intOf] <;> omega
  ·obtain rfl:t = c:=oM
   have e1:(t:Int) - 1 - (t:Int) = -1:=oM
   rw [e1]
   clear e1
   go_wp2
   go_ret
   exact ⟨rfl,HW2.out,KB.out⟩
section
variable {P:Program} {ops:Array Oper} {a0:Act}
theorem region_st2 {id:Nat} {dr:Bool} {w:World} {Q:Exit -> Act -> World -> Prop} (kl:List RK) (l1 l2:Nat) (R1 R2:World -> Prop) (p1:Value -> World -> Prop) (fl:(Nat -> Value) -> Array Value) (hfl:∀ ts,fillT ts ops.toList 0 a0.tmps = fl ts)
  (hm:P.follows .mixedOrders = true) (hb:backB ops = true) (hd:dstB ops a0.tmps.size = true) (hl:looksB ops = true) (hg:(ops.toList.all fun o=>o.guard.isNone) = true)
  (hst:stabs true kl) (hsp:Stab p1) (hv:valB kl = true) (hlen:kl.length + 3 = ops.size) {oa ob oc:Oper} (hoa:ops.toList[kl.length]? = some oa) (hobb:ops.toList[kl.length + 1]? = some ob) (hoc:ops.toList[kl.length + 2]? = some oc)
  (hlast:((List.range kl.length).all fun j=>(j == l1 || j == l2) || predB ops kl.length j) = true) (hlast2:((List.range (kl.length + 2)).all fun j=>predB ops (kl.length + 2) j) = true)
  (hob:AllObA P ops kl w.heap.size w a0 (ops.toList.take kl.length) kl 0) (hl1:l1 < kl.length) (hl2:l2 < kl.length) {o1 o2:Oper} (ho1:ops.toList[l1]? = some o1) (ho2:ops.toList[l2]? = some o2)
  (hlate1:∀ B w0,ObA P ops kl B w0 a0 o1 l1 (pv kl l1)) (hlate2:∀ B w0,ObA P ops kl B w0 a0 o2 l2 (pv kl l2)) (hlateb:∀ B w0,ObA P ops kl B w0 a0 ob (kl.length + 1) p1)
  (hR1:∀ W W',Below W.heap.size W W' -> R1 W -> R1 W') (hR2:∀ W W',Below W.heap.size W W' -> R2 W -> R2 W')
  (store:∀ (ts:Nat -> Value) (W:World) (a:Act),(∀ t,a.eval (.tmp t) = slot ops a0 ts t) -> Below w.heap.size w W -> (∀ j,predB ops kl.length j = true -> PAt kl ts W j) ->
   ∀ K:Act -> World -> Prop,(∀ W',R1 W' -> Ext W W' -> K (a.put oa.dst undef) W') -> Goes (Oper.wp P oa a W K (fun _ _ _=>False)))
  (store2:∀ (ts:Nat -> Value) (W:World) (a:Act),(∀ t,a.eval (.tmp t) = slot ops a0 ts t) -> R1 W ∨ R2 W -> p1 (ts (kl.length + 1)) W -> (∀ j,predB ops (kl.length + 2) j = true -> PAt kl ts W j) ->
   ∀ K:Act -> World -> Prop,(∀ W',R2 W' -> Ext W W' -> K (a.put oc.dst undef) W') -> Goes (Oper.wp P oc a W K (fun _ _ _=>False)))
  (fin:∀ (ts:Nat -> Value) (W:World),R2 W -> Q .normal ⟨fl ts,a0.defers⟩ W) :
  (Code.region id ops dr).wp P Q a0 w:=by
 obtain rfl:fl = fun ts=>fillT ts ops.toList 0 a0.tmps:=funext fun ts=>(hfl ts).symm
 obtain ⟨N,hN⟩:∃ N,N = kl.length:=⟨_,rfl⟩
 rw [<- hN] at hlen hoa hobb hoc hlast hlast2 hob store store2 hl1 hl2 hlateb
 have hpr2:∀ j,j < N + 2 -> predB ops (N + 2) j = true:=fun j hj=>List.all_eq_true.1 hlast2 j (List.mem_range.2 hj)
 have hpr1:∀ j,j < N -> ¬ (j = l1 ∨ j = l2) -> predB ops N j = true:=fun j hj hn=>by
  have:=List.all_eq_true.1 hlast j (List.mem_range.2 hj)
  simp only [Bool.or_eq_true,beq_iff_eq] at this
  rcases this with h | h
  ·exact absurd h hn
  ·exact h
 refine region_free (fun _=>True) (fun j v W=>if j < N then pv kl j v W else if j = N then R1 W ∨ R2 W else if j = N + 1 then p1 v W else if j = N + 2 then R2 W else True) (fun j W=>if (j = l1 ∨ j = l2) ∨ N < j then True else Below w.heap.size w W)
  (fun i W W'=>if i = N then Ext W W' /\ R1 W' else if i = N + 2 then Ext W W' /\ R2 W' else Below W.heap.size W W') hm hb hd hl hg ?_ ?_ ?_ (fun _ _ _ _ h=>h) (AllFree.of _ _ ?_) ?_
 ·intro W hW
  refine ⟨trivial,fun i=>?_⟩
  split
  ·trivial
  ·rcases hW with rfl | rfl
   ·exact Below.refl _ _
   ·exact rfB.drew
 ·intro i j v W W' hij hpr _ hr hp
  have hext:Ext W W':=by
   split at hr
   ·exact hr.1
   ·split at hr
    ·exact hr.1
    ·exact Ext.of_below hr
  by_cases hj:j < N
  ·simp only [if_pos hj] at hp ⊢
   exact pv_stab hst j _ _ _ hext hp
  ·simp only [if_neg hj] at hp ⊢
   by_cases hjN:j = N
   ·simp only [if_pos hjN] at hp ⊢
    rw [if_neg (show ¬ i = N by omega)] at hr
    by_cases hi2:i = N + 2
    ·rw [if_pos hi2] at hr
     exact .inr hr.2
    ·rw [if_neg hi2] at hr
     rcases hp with h | h
     ·exact .inl (hR1 _ _ hr h)
     ·exact .inr (hR2 _ _ hr h)
   ·simp only [if_neg hjN] at hp ⊢
    by_cases hj1:j = N + 1
    ·simp only [if_pos hj1] at hp ⊢
     exact hsp _ _ _ hext hp
    ·simp only [if_neg hj1] at hp ⊢
     by_cases hj2:j = N + 2
     ·simp only [if_pos hj2] at hp ⊢
      by_cases hiN:i < N + 2
      ·rw [hj2,hpr2 i hiN] at hpr
       cases hpr
      ·rw [if_neg oM,if_neg oM] at hr
       exact hR2 _ _ hr hp
     ·simp only [if_neg hj2]
 ·intro i j W W' hij hpr _ hr hm0
  by_cases hj:(j = l1 ∨ j = l2) ∨ N < j
  ·simp only [if_pos hj]
  ·simp only [if_neg hj] at hm0 ⊢
   by_cases hi:i = N
   ·exfalso
    rw [hi,hpr1 j oM (fun c=>hj (.inl c))] at hpr
    cases hpr
   ·rw [if_neg hi] at hr
    by_cases hi2:i = N + 2
    ·exfalso
     rw [hi2,hpr2 j oM] at hpr
     cases hpr
    ·rw [if_neg hi2] at hr
     exact bT hm0 hr
 ·intro i o ho ts W _ hm0 hp K hK
  rw [Nat.zero_add] at hm0 hp hK
  dsimp only at hm0 hp hK
  have hi:i < N + 3:=by
   have:=(List.getElem?_eq_some_iff.1 ho).1
   simpa [hlen] using this
  have hog:o.guard = none:=by simpa using List.all_eq_true.1 hg o (List.mem_of_getElem? ho)
  have hp':∀ j,predB ops i j = true -> PAt kl ts W j:=fun j hj=>by
   have h:=hp j hj
   unfold PAt
   by_cases hjN:j < N
   ·simp only [if_pos hjN] at h
    unfold pv at h
    cases e:rk kl j with
    | val q=>rw [e] at h; exact h
    | box _ _=>trivial
    | put _ _=>trivial
   ·have:rk kl j = .val fun _ _=>True:=by
     unfold rk
     rw [List.getD_eq_getElem?_getD,List.getElem?_eq_none oM]
     rfl
    rw [this]
    trivial
  have hev:∀ t,(⟨fillT ts ops.toList 0 a0.tmps,a0.defers⟩:Act).eval (.tmp t) = slot ops a0 ts t:=fun t=>fill_slot hd ts t
  by_cases hiN:i = N
  ·subst hiN
   rw [hoa] at ho
   cases ho
   refine store ts W ⟨fillT ts ops.toList 0 a0.tmps,a0.defers⟩ hev ?_ hp' K fun W' h1 h2=>hK _ _ ?_ ?_
   ·rw [if_neg (show ¬ ((i = l1 ∨ i = l2) ∨ i < i) by omega)] at hm0
    exact hm0
   ·rw [if_neg (Nat.lt_irrefl _),if_pos rfl]
    exact .inl h1
   ·rw [if_pos rfl]
    exact ⟨h2,h1⟩
  ·by_cases hi2:i = N + 2
   ·subst hi2
    rw [hoc] at ho
    cases ho
    have h1:=hp N (hpr2 N oM)
    rw [if_neg (Nat.lt_irrefl _),if_pos rfl] at h1
    have h3:=hp (N + 1) (hpr2 (N + 1) oM)
    rw [if_neg oM,if_neg oM,if_pos rfl] at h3
    refine store2 ts W ⟨fillT ts ops.toList 0 a0.tmps,a0.defers⟩ hev h1 h3 hp' K fun W' h1 h2=>hK _ _ ?_ ?_
    ·rw [if_neg oM,if_neg oM,if_neg oM,if_pos rfl]
     exact h1
    ·rw [if_neg oM,if_pos rfl]
     exact ⟨h2,h1⟩
   ·have hK':∀ v W',(if i < N then pv kl i v W' else p1 v W') -> Below W.heap.size W W' -> K (Act.put ⟨fillT ts ops.toList 0 a0.tmps,a0.defers⟩ o.dst v) W':=fun v W' h1 h2=>hK v W' (by
      by_cases h:i < N
      ·rw [if_pos h] at h1 ⊢; exact h1
      ·rw [if_neg h] at h1 ⊢
       rw [if_neg hiN,if_pos oM]
       exact h1) (by rw [if_neg hiN,if_neg hi2]; exact h2)
    by_cases hib:i = N + 1
    ·subst hib
     rw [hobb] at ho
     cases ho
     have:=hlateb W.heap.size W ts W ⟨fillT ts ops.toList 0 a0.tmps,a0.defers⟩ hev rfB lR hp'
     rw [hog] at this
     exact this K fun v W' h1 h2=>hK' v W' (by rw [if_neg oM]; exact h1) h2
    ·have hK2:∀ v W',pv kl i v W' -> Below W.heap.size W W' -> K (Act.put ⟨fillT ts ops.toList 0 a0.tmps,a0.defers⟩ o.dst v) W':=fun v W' h1 h2=>hK' v W' (by rw [if_pos oM]; exact h1) h2
     by_cases hil:i = l1
     ·subst hil
      rw [ho1] at ho
      cases ho
      have:=hlate1 W.heap.size W ts W ⟨fillT ts ops.toList 0 a0.tmps,a0.defers⟩ hev rfB lR hp'
      rw [hog] at this
      exact this K hK2
     ·by_cases hil2:i = l2
      ·subst hil2
       rw [ho2] at ho
       cases ho
       have:=hlate2 W.heap.size W ts W ⟨fillT ts ops.toList 0 a0.tmps,a0.defers⟩ hev rfB lR hp'
       rw [hog] at this
       exact this K hK2
      ·rw [if_neg (show ¬ ((i = l1 ∨ i = l2) ∨ N < i) by omega)] at hm0
       have:=AllObA.at' _ _ 0 hv hob i o (by rw [List.getElem?_take_of_lt oM]; exact ho) ts W ⟨fillT ts ops.toList 0 a0.tmps,a0.defers⟩ hev hm0 hm0.size (by rw [Nat.zero_add]; exact hp')
       rw [hog] at this
       exact this K hK2
 ·intro ts W _ hp
  have h:=hp (N + 2) oM
  rw [if_neg oM,if_neg oM,if_neg oM,if_pos rfl] at h
  exact fin ts W h
end
end Go.Proofs.YtffegeaflohfhaaGreatDoor
