import Derived.Test.YtffegeaflohfhaaGreatDoorS21
import Derived.Test.YtffegeaflohfhaaGreatDoorU38
import Derived.Test.YtffegeaflohfhaaGreatDoorU39
import Derived.Test.YtffegeaflohfhaaGreatDoorU15
import Derived.Test.YtffegeaflohfhaaGreatDoorU27
import Derived.Test.YtffegeaflohfhaaGreatDoorU35
import Derived.Test.YtffegeaflohfhaaGreatDoorU36
import Derived.Test.YtffegeaflohfhaaGreatDoorS02
set_option linter.unusedVariables false
set_option linter.unusedSimpArgs false
set_option maxRecDepth 100000
set_option maxHeartbeats 8000000
namespace Go.Proofs.YtffegeaflohfhaaGreatDoor
open Go.RowKit
theorem Cx.int_zero':Cx.int 0 = .zero:=by apply Cx.ext <;> simp [Cx.int,Cx.zero]
theorem MatQ.qss {W:World} {go:Nat} {gi:Nat -> Nat} {n m:Nat} {F:Nat -> Nat -> Cx} (h:MatQ W go gi n m F) (c:Nat):QSS W (.slice (some ⟨go,0,none⟩) n c) n (fun _=>m) F:=by
 refine ⟨_,c,rfl,fun _=>⟨go,gi,rfl,?_⟩⟩
 obtain ⟨cs,h1,h2,h3,h4⟩:=h
 exact ⟨cs,h1,h2,h3,h4⟩
def colsOf (n:Nat) (ml:Nat -> Nat):Nat:=if n = 0 then 0 else ml 0
theorem MatAt.nss {W:World} {go:Nat} {gi:Nat -> Nat} {n m:Nat} {F:Nat -> Nat -> Cx} (h:MatAt W go gi n m F) (c:Nat):NSS W (.slice (some ⟨go,0,none⟩) n c) n (fun _=>m) F:=by
 refine ⟨_,c,rfl,fun _=>⟨go,gi,rfl,?_⟩⟩
 obtain ⟨cs,h1,h2,h3,h4⟩:=h
 exact ⟨cs,h1,h2,h3,h4⟩
def RetSides (w:World) (n:Nat) (ml:Nat -> Nat) (e:Ending) (w':World):Prop:=∃ (r c:Nat) (b:Bool),e = .returned (.tuple #[.int .i64 (r:Int),.int .i64 (c:Int),.bool b]) /\ (b = true ↔ Vld n ml) /\ (b = true -> r = n /\ c = colsOf n ml) /\ Below w.heap.size w w'
theorem sidesN_all (w:World) (v:Value) (n:Nat) (ml:Nat -> Nat) (F:Nat -> Nat -> Cx) (h:NSS w v n ml F) (hn:n <= 1099511627776) (hml:∀ i,i < n -> ml i <= 1099511627776) :
  Calls Tryz.prog 64 #[v] w (RetSides w n ml):=by
 obtain ⟨A,c,rfl,h⟩:=h
 rcases Nat.eq_zero_or_pos n with h0 | h0
 ·subst h0
  clear h
  go_enter Tryz.func64,Tryz.ntmps64
  go_wp2
  go_ret3
  exact ⟨0,0,true,rfl,⟨fun _=>⟨oM,fun i hi=>absurd hi oM⟩,fun _=>rfl⟩,fun _=>⟨rfl,rfl⟩,Below.refl _ _⟩
 ·obtain ⟨go,gi,rfl,hN⟩:=h h0
  have hc0:=hN.cell h0
  have H:=hid hN
  have HML:=hid hml
  have hcols:colsOf n ml = ml 0:=if_neg oM
  have HCO:=hid hcols
  have hm0:=hml 0 h0
  have hn0:¬ (n = 0):=oM
  have hn1:(0:Int) < (n:Int):=oM
  clear hN hml hcols
  obtain ⟨m0,hm⟩:∃ m,ml 0 = m:=⟨_,rfl⟩
  rw [hm] at hc0 hm0
  have HM0:=hid hm
  clear hm
  go_enter Tryz.func64,Tryz.ntmps64
  go_wp2
  go_loop [12] (fun iv=>∃ i:Nat,iv = .int .i64 (i:Int) /\ i <= n /\ ∀ j,j < i -> ml j = ml 0) (fun iv=>n - (intOf iv).toNat)
  case atStart=>exact ⟨0,rfl,oM,fun j hj=>oM⟩
  case round =>
   obtain ⟨i,rfl,hi,hall⟩:=hrel
   have HAL:=hid hall
   clear hall
   by_cases hlt:i < n
   ·have hck:=H.out.cell hlt
    have hmi:=HML.out i hlt
    by_cases he:ml i = ml 0
    ·have HN:=hid (show ∀ j,j < i + 1 -> ml j = ml 0 from fun j hj=>by
      by_cases e:j = i
      ·subst e; exact he
      ·exact HAL.out j oM)
     have hne:((ml i:Int) != (m0:Int)) = false:=by rw [he,HM0.out]; simp
     clear HAL he
     generalize ml i = mi at *
     go_wp2
     go_round
     case rel=>exact ⟨i + 1,by go_num,oM,HN.out⟩
     case measure=>exact mS
    ·have HV:=hid (show ¬ Vld n ml from fun h=>he (h.2 i hlt).1)
     have hne:((ml i:Int) != (m0:Int)) = true:=by rw [HM0.out] at he; simp; omega
     clear HAL he
     generalize ml i = mi at *
     go_wp2
     go_ret3
     exact ⟨0,0,false,rfl,by simp [HV.out],fun h=>absurd h sP,Below.refl _ _⟩
   ·have HAL2:=hid (show ∀ j,j < n -> ml j = ml 0 from fun j hj=>HAL.out j oM)
    clear HAL
    by_cases h1:n <= 32
    ·by_cases h2:m0 <= 32
     ·have HV:=hid (show Vld n ml from ⟨h1,fun j hj=>⟨HAL2.out j hj,by rw [HAL2.out j hj,HM0.out]; exact h2⟩⟩)
      have d1:(n:Int) <= 32:=oM
      have d2:(m0:Int) <= 32:=oM
      clear h1 h2
      go_wp2
      go_quiet (fail)
      go_wp2
      go_ret3
      exact ⟨n,m0,true,rfl,by simp [HV.out],fun _=>⟨rfl,by rw [HCO.out,HM0.out]⟩,bel⟩
     ·have HV:=hid (show ¬ Vld n ml from fun h=>h2 (by rw [<- HM0.out]; exact (h.2 0 h0).2))
      have d1:(n:Int) <= 32:=oM
      have d2:¬ ((m0:Int) <= 32):=oM
      have D3:=hid (decide_eq_false d2)
      clear h1 h2
      go_wp2
      go_quiet (fail)
      go_wp2
      go_ret3
      exact ⟨n,m0,decide ((m0:Int) <= 32),rfl,by rw [D3.out]; simp [HV.out],fun h=>absurd h (by rw [D3.out]; simp),bel⟩
    ·have HV:=hid (show ¬ Vld n ml from fun h=>h1 h.1)
     have d1:(32:Int) < (n:Int):=oM
     have d3:decide ((n:Int) <= 32) = false:=sO
     clear h1
     go_wp2
     go_quiet (fail)
     go_wp2
     go_ret3
     exact ⟨n,m0,false,rfl,by simp [HV.out],fun h=>absurd h sP,bel⟩
def RetSmall (w:World) (n:Nat) (ml:Nat -> Nat) (e:Ending) (w':World):Prop:=∃ b:Bool,e = .returned (.bool b) /\ (b = true -> n <= 40 /\ (∀ i,i < n -> ml i <= 40) /\ (Vld n ml -> n <= 5 /\ colsOf n ml <= 5)) /\ Below w.heap.size w w'
def Ev (n:Nat) (ml:Nat -> Nat) (i:Nat):Prop:=n <= 32 /\ ∀ j,j < i -> ml j = ml 0 /\ ml j <= 32
theorem small_any2 (w:World) (A:Option Addr) (n cap:Nat) (ml:Nat -> Nat) (f:Nat -> Nat -> Int × Int × Int) (hR:RatSS w A n ml f) (hn:n <= 9223372036854775807) (hml:∀ i,i < n -> ml i <= 9223372036854775807) :
  Calls Tryz.prog 6 #[.slice A n cap] w (RetSmall w n ml):=by
 by_cases hbig:40 < n
 ·have hbi:(40:Int) < (n:Int):=oM
  clear hR
  go_enter Tryz.func6,Tryz.ntmps6
  go_wp2
  go_ret
  exact ⟨false,rfl,fun h=>absurd h sP,Below.refl _ _⟩
 ·have hbi:¬ ((40:Int) < (n:Int)):=oM
  have HR:=hid hR
  have HML:=hid hml
  obtain ⟨e0,he0⟩:∃ e0:Bool,e0 = decide (n <= 32):=⟨_,rfl⟩
  have hle:decide ((n:Int) <= 32) = e0:=by rw [he0]; simp; omega
  have HE0:=hid (show e0 = true ↔ Ev n ml 0 by rw [he0]; simp [Ev])
  clear hR hml he0
  go_enter Tryz.func6,Tryz.ntmps6
  go_wp2
  go_loopw [3,14] (fun ev iv wr=>∃ (i:Nat) (b:Bool),iv = .int .i64 (i:Int) /\ ev = .bool b /\ i <= n /\ (b = true ↔ Ev n ml i) /\ (∀ j,j < i -> ml j <= 40) /\ wr = w) (fun _ iv _=>n - (intOf iv).toNat)
  case atStart=>exact ⟨0,e0,rfl,by first | rfl | exact congrArg Value.bool hle,oM,HE0.out,fun j hj=>absurd hj oM,by trivial⟩
  case round =>
   obtain ⟨i,b,rfl,rfl,hi,hev,hall,rfl⟩:=hrel
   have HEV:=hid hev
   have HAL:=hid hall
   clear hev hall
   by_cases hlt:i < n
   ·obtain ⟨bb,off,rfl,hbl,hc⟩:=HR.out oM
    obtain ⟨Ai,ci,hcell,-⟩:=hc i hlt
    obtain ⟨A0,c0,hcell0,-⟩:=hc 0 oM
    have hmi:=HML.out i hlt
    have hm0:=HML.out 0 oM
    rw [Nat.add_zero] at hcell0
    have hi1:(i:Int) < (n:Int):=oM
    have hi2:(0:Int) < (n:Int):=oM
    clear hc
    have HN:=hid (show Ev n ml (i + 1) ↔ (Ev n ml i /\ ml i = ml 0 /\ ml i <= 32) from by
     unfold Ev
     constructor
     ·rintro ⟨h1,h2⟩
      exact ⟨⟨h1,fun j hj=>h2 j oM⟩,h2 i oM⟩
     ·rintro ⟨⟨h1,h2⟩,h3⟩
      refine ⟨h1,fun j hj=>?_⟩
      by_cases e:j = i
      ·subst e; exact h3
      ·exact h2 j oM)
    have HA2:=hid (fun (h:ml i <= 40)=>show ∀ j,j < i + 1 -> ml j <= 40 from fun j hj=>by
     by_cases e:j = i
     ·subst e; exact h
     ·exact HAL.out j oM)
    clear HAL
    generalize ml i = mi at *
    generalize ml 0 = m0 at *
    by_cases h40:40 < mi
    ·have h40':(40:Int) < (mi:Int):=oM
     go_wp2
     go_ret
     exact ⟨false,rfl,fun h=>absurd h sP,Below.refl _ _⟩
    ·have h40':¬ ((40:Int) < (mi:Int)):=oM
     have HA3:=hid (HA2.out oM)
     clear HA2 h40
     cases b
     ·have HN2:=hid (show false = true ↔ Ev n ml (i + 1) from ⟨fun h=>absurd h sP,fun h=>HEV.out.2 (HN.out.1 h).1⟩)
      clear HN HEV
      go_wp2
      go_roundw
      case rel=>exact ⟨i + 1,false,by go_num,by trivial,oM,HN2.out,HA3.out,by trivial⟩
      case measure=>exact mS
     ·by_cases h1:mi = m0
      ·by_cases h2:mi <= 32
       ·have HN2:=hid (show true = true ↔ Ev n ml (i + 1) from ⟨fun _=>HN.out.2 ⟨HEV.out.1 rfl,h1,h2⟩,fun _=>rfl⟩)
        have q1:((mi:Int) == (m0:Int)) = true:=sO
        have q2:decide ((mi:Int) <= 32) = true:=sO
        clear HN HEV h1 h2
        go_wp2
        go_roundw
        case rel=>exact ⟨i + 1,true,by go_num,by trivial,oM,HN2.out,HA3.out,by trivial⟩
        case measure=>exact mS
       ·have HN2:=hid (show false = true ↔ Ev n ml (i + 1) from ⟨fun h=>absurd h sP,fun h=>absurd (HN.out.1 h).2.2 h2⟩)
        have q1:((mi:Int) == (m0:Int)) = true:=sO
        have q2:decide ((mi:Int) <= 32) = false:=sO
        clear HN HEV h1 h2
        go_wp2
        go_roundw
        case rel=>exact ⟨i + 1,false,by go_num,by trivial,oM,HN2.out,HA3.out,by trivial⟩
        case measure=>exact mS
      ·have HN2:=hid (show false = true ↔ Ev n ml (i + 1) from ⟨fun h=>absurd h sP,fun h=>absurd (HN.out.1 h).2.1 h1⟩)
       have q1:((mi:Int) == (m0:Int)) = false:=sO
       clear HN HEV h1
       go_wp2
       go_roundw
       case rel=>exact ⟨i + 1,false,by go_num,by trivial,oM,HN2.out,HA3.out,by trivial⟩
       case measure=>exact mS
   ·obtain rfl:i = n:=oM
    have HV:=hid (show b = true ↔ Vld i ml from HEV.out)
    clear HEV
    cases b
    ·go_wp2
     go_ret
     exact ⟨true,rfl,fun _=>⟨oM,HAL.out,fun h=>absurd (HV.out.2 h) sP⟩,Below.refl _ _⟩
    ·by_cases h5:i <= 5
     ·have q1:decide ((i:Int) <= 5) = true:=sO
      rcases Nat.eq_zero_or_pos i with hz | hz
      ·subst hz
       go_wp2
       go_ret
       exact ⟨true,rfl,fun _=>⟨oM,HAL.out,fun _=>⟨oM,by simp [colsOf]⟩⟩,Below.refl _ _⟩
      ·obtain ⟨bb,off,rfl,hbl,hc⟩:=HR.out oM
       obtain ⟨A0,c0,hcell0,-⟩:=hc 0 hz
       rw [Nat.add_zero] at hcell0
       have hm0:=HML.out 0 hz
       have hi2:(0:Int) < (i:Int):=oM
       have hcol:colsOf i ml = ml 0:=if_neg oM
       have HCO:=hid hcol
       clear hc hcol
       by_cases h6:ml 0 <= 5
       ·have q2:decide ((ml 0:Int) <= 5) = true:=sO
        have HF:=hid (show colsOf i ml <= 5 by rw [HCO.out]; exact h6)
        clear h6
        generalize ml 0 = m0 at *
        go_wp2
        go_ret
        exact ⟨_,rfl,fun _=>⟨oM,HAL.out,fun _=>⟨h5,HF.out⟩⟩,Below.refl _ _⟩
       ·have q2:decide ((ml 0:Int) <= 5) = false:=sO
        clear h6
        generalize ml 0 = m0 at *
        go_wp2
        go_ret
        exact ⟨((i:Int) == 0),rfl,fun h=>absurd h sO,Below.refl _ _⟩
     ·have q1:decide ((i:Int) <= 5) = false:=sO
      go_wp2
      go_ret
      exact ⟨false,by trivial,fun h=>absurd h sP,Below.refl _ _⟩
theorem RagN.mat {W:World} {go:Nat} {gi:Nat -> Nat} {n m:Nat} {ml:Nat -> Nat} {F:Nat -> Nat -> Cx} (h:RagN W go gi n ml F) (hm:∀ i,i < n -> ml i = m):MatAt W go gi n m F:=by
 obtain ⟨cs,h1,h2,h3,h4⟩:=h
 exact ⟨cs,h1,h2,fun i hi=>by rw [<- hm i hi]; exact h3 i hi,fun i hi=>by rw [<- hm i hi]; exact h4 i hi⟩
theorem RagQ.mat {W:World} {go:Nat} {gi:Nat -> Nat} {n m:Nat} {ml:Nat -> Nat} {F:Nat -> Nat -> Cx} (h:RagQ W go gi n ml F) (hm:∀ i,i < n -> ml i = m):MatQ W go gi n m F:=by
 obtain ⟨cs,h1,h2,h3,h4⟩:=h
 exact ⟨cs,h1,h2,fun i hi=>by rw [<- hm i hi]; exact h3 i hi,fun i hi=>by rw [<- hm i hi]; exact h4 i hi⟩
theorem RagN.nss {W:World} {go:Nat} {gi:Nat -> Nat} {n:Nat} {ml:Nat -> Nat} {F:Nat -> Nat -> Cx} (h:RagN W go gi n ml F) (c:Nat):NSS W (.slice (some ⟨go,0,none⟩) n c) n ml F:=⟨_,c,rfl,fun _=>⟨go,gi,rfl,h⟩⟩
theorem RagQ.qss {W:World} {go:Nat} {gi:Nat -> Nat} {n:Nat} {ml:Nat -> Nat} {F:Nat -> Nat -> Cx} (h:RagQ W go gi n ml F) (c:Nat):QSS W (.slice (some ⟨go,0,none⟩) n c) n ml F:=⟨_,c,rfl,fun _=>⟨go,gi,rfl,h⟩⟩
theorem MatAt.nss' {W:World} {go:Nat} {gi:Nat -> Nat} {n m:Nat} {F:Nat -> Nat -> Cx} (h:MatAt W go gi n m F) (c:Nat):NSS W (.slice (some ⟨go,0,none⟩) n c) n (fun _=>m) F:=h.nss c
end Go.Proofs.YtffegeaflohfhaaGreatDoor
