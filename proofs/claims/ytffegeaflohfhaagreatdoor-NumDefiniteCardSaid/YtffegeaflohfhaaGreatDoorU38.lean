import Derived.Test.YtffegeaflohfhaaGreatDoorU37
import Derived.Test.YtffegeaflohfhaaGreatDoorU15
import Derived.Test.YtffegeaflohfhaaGreatDoorU35
import Derived.Test.YtffegeaflohfhaaGreatDoorU36
import Derived.Test.YtffegeaflohfhaaGreatDoorS02
set_option linter.unusedVariables false
set_option linter.unusedSimpArgs false
set_option maxRecDepth 100000
set_option maxHeartbeats 8000000
namespace Go.Proofs.YtffegeaflohfhaaGreatDoor
open Go.RowKit
def RagN (W:World) (go:Nat) (gi:Nat -> Nat) (n:Nat) (ml:Nat -> Nat) (F:Nat -> Nat -> Cx):Prop:=∃ cs:Array Value,W.heap[go]? = some (.cells cs 46 (0,0)) /\ cs.size = n /\
 (∀ i,i < n -> cs[i]? = some (.slice (some ⟨gi i,0,none⟩) (ml i) (ml i))) /\ ∀ i,i < n -> NBlk W (gi i) (ml i) (F i)
section
variable {W W':World} {go:Nat} {gi:Nat -> Nat} {n:Nat} {ml:Nat -> Nat} {F F':Nat -> Nat -> Cx}
theorem RagN.lt (h:RagN W go gi n ml F):go < W.heap.size:=by
 obtain ⟨cs,h,-⟩:=h
 exact heap_ge_none h
theorem RagN.cell (h:RagN W go gi n ml F) {i:Nat} (hi:i < n):W.cell? ⟨go,i,none⟩ = some (.slice (some ⟨gi i,0,none⟩) (ml i) (ml i)):=by
 obtain ⟨cs,h1,h2,h3,-⟩:=h
 rw [cell_of_row W go i cs _ (0,0) h1]
 exact h3 i hi
theorem RagN.below (h:RagN W go gi n ml F) (hb:Below W.heap.size W W'):RagN W' go gi n ml F:=by
 have hlt:=h.lt
 obtain ⟨cs,h1,h2,h3,h4⟩:=h
 exact ⟨cs,(hb.block _ hlt).trans h1,h2,h3,fun i hi=>(h4 i hi).below hb⟩
end
structure PRag (B:Nat) (W:World) (go:Nat) (gi:Nat -> Nat) (n:Nat) (ml:Nat -> Nat) (k:Nat) (F:Nat -> Nat -> Cx):Prop where
 sep:MatSep B go gi k
 kn:k <= n
 cells:∃ cs:Array Value,W.heap[go]? = some (.cells cs 46 (0,0)) /\ cs.size = n /\ (∀ i,i < k -> cs[i]? = some (.slice (some ⟨gi i,0,none⟩) (ml i) (ml i))) /\ (∀ i,k <= i -> i < n -> cs[i]? = some (.slice none 0 0))
 rows:∀ i,i < k -> NBlk W (gi i) (ml i) (F i)
section
variable {B:Nat} {W W':World} {go:Nat} {gi:Nat -> Nat} {n:Nat} {ml:Nat -> Nat} {k:Nat} {F F':Nat -> Nat -> Cx}
theorem PRag.lt (h:PRag B W go gi n ml k F):go < W.heap.size:=by
 obtain ⟨cs,h,-⟩:=h.cells
 exact heap_ge_none h
theorem PRag.below (h:PRag B W go gi n ml k F) (hb:Below W.heap.size W W'):PRag B W' go gi n ml k F:=by
 have hlt:=h.lt
 obtain ⟨cs,h1,h2,h3,h4⟩:=h.cells
 exact ⟨h.sep,h.kn,⟨cs,(hb.block _ hlt).trans h1,h2,h3,h4⟩,fun i hi=>(h.rows i hi).below hb⟩
theorem PRag.cell_nil (h:PRag B W go gi n ml k F) {i:Nat} (hk:k <= i) (hi:i < n):W.cell? ⟨go,i,none⟩ = some (.slice none 0 0):=by
 obtain ⟨cs,h1,h2,-,h4⟩:=h.cells
 rw [cell_of_row W go i cs _ (0,0) h1]
 exact h4 i hk hi
theorem PRag.frozen (h:PRag B W go gi n ml k F) (i:Nat):W.frozen? ⟨go,i,none⟩ = false:=by
 obtain ⟨cs,h1,-⟩:=h.cells
 simp [World.frozen?,h1]
theorem PRag.done (h:PRag B W go gi n ml n F):RagN W go gi n ml F /\ MatSep B go gi n:=by
 obtain ⟨cs,h1,h2,h3,-⟩:=h.cells
 exact ⟨⟨cs,h1,h2,h3,h.rows⟩,h.sep⟩
theorem PRag.row (h:PRag B W go gi n ml k F) (hb:Below W.heap.size W W') {g:Nat} (hg:W.heap.size <= g) (hr:NBlk W' g (ml k) (F k)) (hk:k < n) :
  PRag B (W'.setCell ⟨go,k,none⟩ (.slice (some ⟨g,0,none⟩) (ml k) (ml k))) go (upf gi k g) n ml (k + 1) F /\ But W' (W'.setCell ⟨go,k,none⟩ (.slice (some ⟨g,0,none⟩) (ml k) (ml k))) go /\ Ext W' (W'.setCell ⟨go,k,none⟩ (.slice (some ⟨g,0,none⟩) (ml k) (ml k))):=by
 have hgo:=h.lt
 have h':=h.below hb
 obtain ⟨cs,h1,h2,h3,h4⟩:=h'.cells
 have hbut:But W' (W'.setCell ⟨go,k,none⟩ (.slice (some ⟨g,0,none⟩) (ml k) (ml k))) go:=by
  rw [setCell_eq_setRow W' go k cs _ (0,0) _ h1]
  exact But.setRow _ _ _
 have hodd:oddB cs = true:=by
  unfold oddB
  rw [List.all_eq_true]
  intro v hv
  obtain ⟨i,hi,rfl⟩:=List.getElem_of_mem hv
  have hi':i < n:=by simpa [h2] using hi
  have hget:∀ u,cs[i]? = some u -> cs.toList[i] = u:=fun u hu=>by
   obtain ⟨hlt,hu⟩:=Array.getElem?_eq_some_iff.1 hu
   simpa using hu
  rcases Nat.lt_or_ge i k with hik | hik
  ·rw [hget _ (h3 i hik)]
  ·rw [hget _ (h4 i hik hi')]
 have hext:=hbut.ext h1 hodd
 have hgi:∀ i,i < k -> gi i < W.heap.size:=fun i hi=>(h.rows i hi).lt
 refine ⟨?_,hbut,hext⟩
 refine ⟨⟨h.sep.lo,fun i hi=>?_,fun i hi=>?_,fun i j hi hj e=>?_⟩,oM,⟨cs.setIfInBounds k (.slice (some ⟨g,0,none⟩) (ml k) (ml k)),?_,by simp [h2],fun i hi=>?_,fun i hi hin=>?_⟩,fun i hi=>?_⟩
 ·by_cases hik:i = k
  ·rw [hik,upf_same]; have:=h.sep.lo; omega
  ·rw [upf_other _ _ hik]; exact h.sep.los i oM
 ·by_cases hik:i = k
  ·rw [hik,upf_same]; omega
  ·rw [upf_other _ _ hik]; exact h.sep.ne i oM
 ·by_cases hik:i = k
  ·by_cases hjk:j = k
   ·omega
   ·rw [hik,upf_same,upf_other _ _ hjk] at e
    have:=hgi j oM
    omega
  ·by_cases hjk:j = k
   ·rw [hjk,upf_same,upf_other _ _ hik] at e
    have:=hgi i oM
    omega
   ·rw [upf_other _ _ hik,upf_other _ _ hjk] at e
    exact h.sep.inj i j oM oM e
 ·rw [setCell_eq_setRow W' go k cs _ (0,0) _ h1]
  exact setRow_heap W' go cs _ _ _ h1
 ·rw [Array.getElem?_setIfInBounds]
  by_cases hik:k = i
  ·subst hik
   rw [if_pos rfl,if_pos oM,upf_same]
  ·rw [if_neg hik,upf_other _ _ (fun e=>hik e.symm)]
   exact h3 i oM
 ·rw [Array.getElem?_setIfInBounds,if_neg oM]
  exact h4 i oM hin
 ·by_cases hik:i = k
  ·rw [hik,upf_same]
   exact hr.but hbut hext oM
  ·rw [upf_other _ _ hik]
   exact (h'.rows i oM).but hbut hext (h.sep.ne i oM)
end
theorem make_rag (n:Nat) (ml:Nat -> Nat) (hn:n <= 1099511627776) (w:World) (F:Nat -> Nat -> Cx) (gi:Nat -> Nat):∃ w',(Instr.makeSlice 26 (.int .i64 (n:Int)) (.int .i64 (n:Int))).run Tryz.prog w = .ok (.slice (some ⟨w.heap.size,0,none⟩) n n) w' /\
  Below w.heap.size w w' /\ w'.heap.size = w.heap.size + 1 /\ PRag w.heap.size w' w.heap.size gi n ml 0 F:=by
 obtain ⟨w',h1,h2,h3,h4⟩:=make_mat n 0 hn w F gi
 obtain ⟨cs,c1,c2,-,c4⟩:=h4.cells
 exact ⟨w',h1,h2,h3,⟨h4.sep,h4.kn,⟨cs,c1,c2,fun i hi=>absurd hi oM,c4⟩,fun i hi=>absurd hi oM⟩⟩
def RagQ (W:World) (go:Nat) (gi:Nat -> Nat) (n:Nat) (ml:Nat -> Nat) (F:Nat -> Nat -> Cx):Prop:=∃ cs:Array Value,W.heap[go]? = some (.cells cs 50 (0,0)) /\ cs.size = n /\
 (∀ i,i < n -> cs[i]? = some (.slice (some ⟨gi i,0,none⟩) (ml i) (ml i))) /\ ∀ i,i < n -> QBlk W (gi i) (ml i) (fun _=>True) (F i)
section
variable {W W':World} {go:Nat} {gi:Nat -> Nat} {n:Nat} {ml:Nat -> Nat} {F F':Nat -> Nat -> Cx}
theorem RagQ.lt (h:RagQ W go gi n ml F):go < W.heap.size:=by
 obtain ⟨cs,h,-⟩:=h
 exact heap_ge_none h
theorem RagQ.cell (h:RagQ W go gi n ml F) {i:Nat} (hi:i < n):W.cell? ⟨go,i,none⟩ = some (.slice (some ⟨gi i,0,none⟩) (ml i) (ml i)):=by
 obtain ⟨cs,h1,h2,h3,-⟩:=h
 rw [cell_of_row W go i cs _ (0,0) h1]
 exact h3 i hi
theorem RagQ.below (h:RagQ W go gi n ml F) (hb:Below W.heap.size W W'):RagQ W' go gi n ml F:=by
 have hlt:=h.lt
 obtain ⟨cs,h1,h2,h3,h4⟩:=h
 exact ⟨cs,(hb.block _ hlt).trans h1,h2,h3,fun i hi=>(h4 i hi).below hb⟩
end
structure PRagQ (B:Nat) (W:World) (go:Nat) (gi:Nat -> Nat) (n:Nat) (ml:Nat -> Nat) (k:Nat) (F:Nat -> Nat -> Cx):Prop where
 sep:MatSep B go gi k
 kn:k <= n
 cells:∃ cs:Array Value,W.heap[go]? = some (.cells cs 50 (0,0)) /\ cs.size = n /\ (∀ i,i < k -> cs[i]? = some (.slice (some ⟨gi i,0,none⟩) (ml i) (ml i))) /\ (∀ i,k <= i -> i < n -> cs[i]? = some (.slice none 0 0))
 rows:∀ i,i < k -> QBlk W (gi i) (ml i) (fun _=>True) (F i)
section
variable {B:Nat} {W W':World} {go:Nat} {gi:Nat -> Nat} {n:Nat} {ml:Nat -> Nat} {k:Nat} {F F':Nat -> Nat -> Cx}
theorem PRagQ.lt (h:PRagQ B W go gi n ml k F):go < W.heap.size:=by
 obtain ⟨cs,h,-⟩:=h.cells
 exact heap_ge_none h
theorem PRagQ.below (h:PRagQ B W go gi n ml k F) (hb:Below W.heap.size W W'):PRagQ B W' go gi n ml k F:=by
 have hlt:=h.lt
 obtain ⟨cs,h1,h2,h3,h4⟩:=h.cells
 exact ⟨h.sep,h.kn,⟨cs,(hb.block _ hlt).trans h1,h2,h3,h4⟩,fun i hi=>(h.rows i hi).below hb⟩
theorem PRagQ.cell_nil (h:PRagQ B W go gi n ml k F) {i:Nat} (hk:k <= i) (hi:i < n):W.cell? ⟨go,i,none⟩ = some (.slice none 0 0):=by
 obtain ⟨cs,h1,h2,-,h4⟩:=h.cells
 rw [cell_of_row W go i cs _ (0,0) h1]
 exact h4 i hk hi
theorem PRagQ.frozen (h:PRagQ B W go gi n ml k F) (i:Nat):W.frozen? ⟨go,i,none⟩ = false:=by
 obtain ⟨cs,h1,-⟩:=h.cells
 simp [World.frozen?,h1]
theorem PRagQ.done (h:PRagQ B W go gi n ml n F):RagQ W go gi n ml F /\ MatSep B go gi n:=by
 obtain ⟨cs,h1,h2,h3,-⟩:=h.cells
 exact ⟨⟨cs,h1,h2,h3,h.rows⟩,h.sep⟩
theorem PRagQ.row (h:PRagQ B W go gi n ml k F) (hb:Below W.heap.size W W') {g:Nat} (hg:W.heap.size <= g) (hr:QBlk W' g (ml k) (fun _=>True) (F k)) (hk:k < n) :
  PRagQ B (W'.setCell ⟨go,k,none⟩ (.slice (some ⟨g,0,none⟩) (ml k) (ml k))) go (upf gi k g) n ml (k + 1) F /\ But W' (W'.setCell ⟨go,k,none⟩ (.slice (some ⟨g,0,none⟩) (ml k) (ml k))) go /\ Ext W' (W'.setCell ⟨go,k,none⟩ (.slice (some ⟨g,0,none⟩) (ml k) (ml k))):=by
 have hgo:=h.lt
 have h':=h.below hb
 obtain ⟨cs,h1,h2,h3,h4⟩:=h'.cells
 have hbut:But W' (W'.setCell ⟨go,k,none⟩ (.slice (some ⟨g,0,none⟩) (ml k) (ml k))) go:=by
  rw [setCell_eq_setRow W' go k cs _ (0,0) _ h1]
  exact But.setRow _ _ _
 have hodd:oddB cs = true:=by
  unfold oddB
  rw [List.all_eq_true]
  intro v hv
  obtain ⟨i,hi,rfl⟩:=List.getElem_of_mem hv
  have hi':i < n:=by simpa [h2] using hi
  have hget:∀ u,cs[i]? = some u -> cs.toList[i] = u:=fun u hu=>by
   obtain ⟨hlt,hu⟩:=Array.getElem?_eq_some_iff.1 hu
   simpa using hu
  rcases Nat.lt_or_ge i k with hik | hik
  ·rw [hget _ (h3 i hik)]
  ·rw [hget _ (h4 i hik hi')]
 have hext:=hbut.ext h1 hodd
 have hgi:∀ i,i < k -> gi i < W.heap.size:=fun i hi=>(h.rows i hi).lt
 refine ⟨?_,hbut,hext⟩
 refine ⟨⟨h.sep.lo,fun i hi=>?_,fun i hi=>?_,fun i j hi hj e=>?_⟩,oM,⟨cs.setIfInBounds k (.slice (some ⟨g,0,none⟩) (ml k) (ml k)),?_,by simp [h2],fun i hi=>?_,fun i hi hin=>?_⟩,fun i hi=>?_⟩
 ·by_cases hik:i = k
  ·rw [hik,upf_same]; have:=h.sep.lo; omega
  ·rw [upf_other _ _ hik]; exact h.sep.los i oM
 ·by_cases hik:i = k
  ·rw [hik,upf_same]; omega
  ·rw [upf_other _ _ hik]; exact h.sep.ne i oM
 ·by_cases hik:i = k
  ·by_cases hjk:j = k
   ·omega
   ·rw [hik,upf_same,upf_other _ _ hjk] at e
    have:=hgi j oM
    omega
  ·by_cases hjk:j = k
   ·rw [hjk,upf_same,upf_other _ _ hik] at e
    have:=hgi i oM
    omega
   ·rw [upf_other _ _ hik,upf_other _ _ hjk] at e
    exact h.sep.inj i j oM oM e
 ·rw [setCell_eq_setRow W' go k cs _ (0,0) _ h1]
  exact setRow_heap W' go cs _ _ _ h1
 ·rw [Array.getElem?_setIfInBounds]
  by_cases hik:k = i
  ·subst hik
   rw [if_pos rfl,if_pos oM,upf_same]
  ·rw [if_neg hik,upf_other _ _ (fun e=>hik e.symm)]
   exact h3 i oM
 ·rw [Array.getElem?_setIfInBounds,if_neg oM]
  exact h4 i oM hin
 ·by_cases hik:i = k
  ·rw [hik,upf_same]
   exact hr.but hbut hext oM
  ·rw [upf_other _ _ hik]
   exact (h'.rows i oM).but hbut hext (h.sep.ne i oM)
end
theorem make_ragq (n:Nat) (ml:Nat -> Nat) (hn:n <= 1099511627776) (w:World) (F:Nat -> Nat -> Cx) (gi:Nat -> Nat):∃ w',(Instr.makeSlice 28 (.int .i64 (n:Int)) (.int .i64 (n:Int))).run Tryz.prog w = .ok (.slice (some ⟨w.heap.size,0,none⟩) n n) w' /\
  Below w.heap.size w w' /\ w'.heap.size = w.heap.size + 1 /\ PRagQ w.heap.size w' w.heap.size gi n ml 0 F:=by
 obtain ⟨w',h1,h2,h3,h4⟩:=make_matq n 0 hn w F gi
 obtain ⟨cs,c1,c2,-,c4⟩:=h4.cells
 exact ⟨w',h1,h2,h3,⟨h4.sep,h4.kn,⟨cs,c1,c2,fun i hi=>absurd hi oM,c4⟩,fun i hi=>absurd hi oM⟩⟩
def RatSS (W:World) (A:Option Addr) (n:Nat) (ml:Nat -> Nat) (f:Nat -> Nat -> Int × Int × Int):Prop:=0 < n -> ∃ b off,A = some ⟨b,off,none⟩ /\ b < W.heap.size /\
 ∀ i,i < n -> ∃ Ai ci,W.cell? ⟨b,off + i,none⟩ = some (.slice Ai (ml i) ci) /\ RatS W Ai (ml i) (f i)
theorem RatSS.below {W W':World} {A:Option Addr} {n:Nat} {ml:Nat -> Nat} {f:Nat -> Nat -> Int × Int × Int} (h:RatSS W A n ml f) (hb:Below W.heap.size W W'):RatSS W' A n ml f:=fun hn=>by
 obtain ⟨b,off,hA,hlt,hc⟩:=h hn
 refine ⟨b,off,hA,lL hlt hb.size,fun i hi=>?_⟩
 obtain ⟨Ai,ci,h1,h2⟩:=hc i hi
 exact ⟨Ai,ci,(hb.cell (p:=⟨b,_,none⟩) hlt).trans h1,h2.below hb⟩
theorem rows_any (w:World) (A:Option Addr) (n cap:Nat) (ml:Nat -> Nat) (f:Nat -> Nat -> Int × Int × Int) (hR:RatSS w A n ml f) (h64:∀ i,Rat64 (f i)) (hl:n <= 1099511627776) (hml:∀ i,i < n -> ml i <= 1099511627776) (hT:Tab w) :
  Calls Tryz.prog 8 #[.slice A n cap] w fun e w'=>∃ gi,e = .returned (.slice (some ⟨w.heap.size,0,none⟩) n n) /\ RagN w' w.heap.size gi n ml (fun i=>ratF (f i)) /\ MatSep w.heap.size w.heap.size gi n /\ Below w.heap.size w w':=by
 obtain ⟨W1,hr1,hb1,hs1,hP1⟩:=make_rag n ml hl w (fun i=>ratF (f i)) (fun _=>0)
 have HR0:=hid hR
 have HL:=hid (fun W (hb:Below w.heap.size w W) i (hi:i < n) Ai ci (h:RatS W Ai (ml i) (f i))=>list_any W Ai (ml i) ci (f i) h (h64 i) (hml i hi) (hT.below hb))
 have HP:=hid hP1
 have HB:=hid hb1
 clear hR h64 hP1 hb1 hml hT
 go_enter Tryz.func8,Tryz.ntmps8
 go_wp2
 clear hr1
 go_loopw [11] (fun iv wr=>∃ (i:Nat) (gi:Nat -> Nat),iv = .int .i64 (i:Int) /\ i <= n /\ Below w.heap.size w wr /\ PRag w.heap.size wr w.heap.size gi n ml i (fun i=>ratF (f i))) (fun iv _=>n - (intOf iv).toNat)
 case atStart=>exact ⟨0,_,rfl,oM,HB.out,HP.out⟩
 case round =>
  clear HB HP
  obtain ⟨i,gi,rfl,hi,hB,hP⟩:=hrel
  have KB:=hid hB
  have HP:=hid hP
  clear hB hP
  by_cases hlt:i < n
  ·obtain ⟨b,off,rfl,hbl,hc⟩:=(HR0.out.below KB.out) oM
   obtain ⟨Ai,ci,hcell,hRi⟩:=hc i hlt
   have HC:=hid (HL.out wr KB.out i hlt Ai ci hRi)
   clear hRi hc
   have hi0:(0:Int) <= (i:Int):=oM
   have hi1:(i:Int) < (n:Int):=oM
   obtain ⟨mi,hmi⟩:∃ mi,ml i = mi:=⟨_,rfl⟩
   rw [hmi] at hcell HC
   have HMI:=hid hmi
   clear hmi
   go_wp2_with fail
   refine HC.out.mono ?_
   rintro e W2 ⟨rfl,hN2,hb2⟩
   have f1:=(HP.out.below hb2).cell_nil (Nat.le_refl i) hlt
   have f2:=(HP.out.below hb2).frozen i
   rw [<- HMI.out] at hN2
   obtain ⟨P3,hB2,hE2⟩:=HP.out.row hb2 lR hN2 hlt
   rw [HMI.out] at P3 hB2
   have M4:=hid P3
   have B4:=hid (hB2.below (bT KB.out hb2) lR)
   clear P3 hB2 hE2 hN2 hb2
   go_wp2
   go_roundw
   case rel=>exact ⟨i + 1,_,by go_num,oM,B4.out,M4.out⟩
   case measure=>exact mS
  ·obtain rfl:i = n:=oM
   go_wp2
   go_ret
   exact ⟨_,rfl,HP.out.done.1,HP.out.done.2,KB.out⟩
theorem refrows_any (w:World) (A:Option Addr) (n cap:Nat) (ml:Nat -> Nat) (f:Nat -> Nat -> Int × Int × Int) (hR:RatSS w A n ml f) (h64:∀ i,Rat64 (f i)) (hl:n <= 1099511627776) (hml:∀ i,i < n -> ml i <= 1099511627776) :
  Calls Tryz.prog 9 #[.slice A n cap] w fun e w'=>∃ gi,e = .returned (.slice (some ⟨w.heap.size,0,none⟩) n n) /\ RagQ w' w.heap.size gi n ml (fun i=>ratF (f i)) /\ MatSep w.heap.size w.heap.size gi n /\ Below w.heap.size w w':=by
 obtain ⟨W1,hr1,hb1,hs1,hP1⟩:=make_ragq n ml hl w (fun i=>ratF (f i)) (fun _=>0)
 have HR0:=hid hR
 have HL:=hid (fun W (hb:Below w.heap.size w W) i (hi:i < n) Ai ci (h:RatS W Ai (ml i) (f i))=>reflist_any W Ai (ml i) ci (f i) h (h64 i) (hml i hi))
 have HP:=hid hP1
 have HB:=hid hb1
 clear hR h64 hP1 hb1 hml
 go_enter Tryz.func9,Tryz.ntmps9
 go_wp2
 clear hr1
 go_loopw [11] (fun iv wr=>∃ (i:Nat) (gi:Nat -> Nat),iv = .int .i64 (i:Int) /\ i <= n /\ Below w.heap.size w wr /\ PRagQ w.heap.size wr w.heap.size gi n ml i (fun i=>ratF (f i))) (fun iv _=>n - (intOf iv).toNat)
 case atStart=>exact ⟨0,_,rfl,oM,HB.out,HP.out⟩
 case round =>
  clear HB HP
  obtain ⟨i,gi,rfl,hi,hB,hP⟩:=hrel
  have KB:=hid hB
  have HP:=hid hP
  clear hB hP
  by_cases hlt:i < n
  ·obtain ⟨b,off,rfl,hbl,hc⟩:=(HR0.out.below KB.out) oM
   obtain ⟨Ai,ci,hcell,hRi⟩:=hc i hlt
   have HC:=hid (HL.out wr KB.out i hlt Ai ci hRi)
   clear hRi hc
   have hi0:(0:Int) <= (i:Int):=oM
   have hi1:(i:Int) < (n:Int):=oM
   obtain ⟨mi,hmi⟩:∃ mi,ml i = mi:=⟨_,rfl⟩
   rw [hmi] at hcell HC
   have HMI:=hid hmi
   clear hmi
   go_wp2_with fail
   refine HC.out.mono ?_
   rintro e W2 ⟨rfl,hN2,hb2⟩
   have f1:=(HP.out.below hb2).cell_nil (Nat.le_refl i) hlt
   have f2:=(HP.out.below hb2).frozen i
   rw [<- HMI.out] at hN2
   obtain ⟨P3,hB2,hE2⟩:=HP.out.row hb2 lR hN2 hlt
   rw [HMI.out] at P3 hB2
   have M4:=hid P3
   have B4:=hid (hB2.below (bT KB.out hb2) lR)
   clear P3 hB2 hE2 hN2 hb2
   go_wp2
   go_roundw
   case rel=>exact ⟨i + 1,_,by go_num,oM,B4.out,M4.out⟩
   case measure=>exact mS
  ·obtain rfl:i = n:=oM
   go_wp2
   go_ret
   exact ⟨_,rfl,HP.out.done.1,HP.out.done.2,KB.out⟩
def NSS (W:World) (v:Value) (n:Nat) (ml:Nat -> Nat) (F:Nat -> Nat -> Cx):Prop:=∃ A c,v = .slice A n c /\ (0 < n -> ∃ go gi,A = some ⟨go,0,none⟩ /\ RagN W go gi n ml F)
def QSS (W:World) (v:Value) (n:Nat) (ml:Nat -> Nat) (F:Nat -> Nat -> Cx):Prop:=∃ A c,v = .slice A n c /\ (0 < n -> ∃ go gi,A = some ⟨go,0,none⟩ /\ RagQ W go gi n ml F)
def Vld (n:Nat) (ml:Nat -> Nat):Prop:=n <= 32 /\ ∀ i,i < n -> ml i = ml 0 /\ ml i <= 32
theorem QSS.below {W W':World} {v:Value} {n:Nat} {ml:Nat -> Nat} {F:Nat -> Nat -> Cx} (h:QSS W v n ml F) (hb:Below W.heap.size W W'):QSS W' v n ml F:=by
 obtain ⟨A,c,rfl,h⟩:=h
 exact ⟨A,c,rfl,fun hn=>by
  obtain ⟨go,gi,e,h⟩:=h hn
  exact ⟨go,gi,e,h.below hb⟩⟩
theorem NSS.below {W W':World} {v:Value} {n:Nat} {ml:Nat -> Nat} {F:Nat -> Nat -> Cx} (h:NSS W v n ml F) (hb:Below W.heap.size W W'):NSS W' v n ml F:=by
 obtain ⟨A,c,rfl,h⟩:=h
 exact ⟨A,c,rfl,fun hn=>by
  obtain ⟨go,gi,e,h⟩:=h hn
  exact ⟨go,gi,e,h.below hb⟩⟩
theorem rValid_any (w:World) (v:Value) (n:Nat) (ml:Nat -> Nat) (F:Nat -> Nat -> Cx) (h:QSS w v n ml F) (hn:n <= 1099511627776) (hml:∀ i,i < n -> ml i <= 1099511627776) :
  Calls Tryz.prog 67 #[v] w fun e w'=>∃ b,e = .returned (.bool b) /\ (b = true ↔ Vld n ml) /\ Below w.heap.size w w':=by
 obtain ⟨A,c,rfl,h⟩:=h
 have H:=hid h
 have HML:=hid hml
 clear h hml
 by_cases hbig:32 < n
 ·have hbi:(32:Int) < (n:Int):=oM
  go_enter Tryz.func67,Tryz.ntmps67
  go_wp2
  go_ret
  exact ⟨false,rfl,by simp [Vld]; omega,Below.refl _ _⟩
 ·have hbi:¬ ((32:Int) < (n:Int)):=oM
  go_enter Tryz.func67,Tryz.ntmps67
  go_wp2
  go_loopw [3] (fun iv wr=>∃ i:Nat,iv = .int .i64 (i:Int) /\ i <= n /\ (∀ j,j < i -> ml j = ml 0 /\ ml j <= 32) /\ Below w.heap.size w wr) (fun iv _=>n - (intOf iv).toNat)
  case atStart=>exact ⟨0,rfl,oM,fun j hj=>oM,Below.refl _ _⟩
  case round =>
   obtain ⟨i,rfl,hi,hall,hB⟩:=hrel
   have KB:=hid hB
   have HAL:=hid hall
   clear hB hall
   by_cases hlt:i < n
   ·obtain ⟨go,gi,rfl,hQ⟩:=H.out oM
    have f1:=(hQ.below KB.out).cell hlt
    have f2:=(hQ.below KB.out).cell (i:=0) oM
    have hb1:=HML.out i hlt
    have hb2:=HML.out 0 oM
    have HE1:=hid (fun (h1:ml i = ml 0) (h2:ml i <= 32)=>show ∀ j,j < i + 1 -> ml j = ml 0 /\ ml j <= 32 from fun j hj=>by
     by_cases e:j = i
     ·subst e; exact ⟨h1,h2⟩
     ·exact HAL.out j oM)
    have HE2:=hid (fun (h1:¬ (ml i = ml 0 /\ ml i <= 32))=>show ¬ Vld n ml from fun h2=>h1 (h2.2 i hlt))
    clear hQ HAL
    have hi0:(0:Int) <= (i:Int):=oM
    have hi1:(i:Int) < (n:Int):=oM
    have hi2:(0:Int) < (n:Int):=oM
    generalize ml i = mi at *
    generalize ml 0 = m0 at *
    by_cases h1:mi = m0
    ·by_cases h2:mi <= 32
     ·have HE3:=hid (HE1.out h1 h2)
      have hne:((mi:Int) != (m0:Int)) = false:=sO
      have hgt:¬ ((32:Int) < (mi:Int)):=oM
      have hgt2:decide ((32:Int) < (mi:Int)) = false:=sO
      clear h1 h2 HE1 HE2
      go_wp2
      go_quiet (fail)
      go_wp2
      go_roundw
      case rel=>exact ⟨i + 1,by go_num,oM,HE3.out,by have hb9:=KB.out; exact bel⟩
      case measure=>exact mS
     ·have HE3:=hid (HE2.out (fun e=>h2 e.2))
      have hne:((mi:Int) != (m0:Int)) = false:=sO
      have hgt:(32:Int) < (mi:Int):=oM
      have hgt2:decide ((32:Int) < (mi:Int)) = true:=sO
      clear h1 h2 HE1 HE2
      go_wp2
      go_quiet (fail)
      go_wp2
      go_ret
      exact ⟨false,rfl,by simp [HE3.out],by have hb9:=KB.out; exact bel⟩
    ·have HE3:=hid (HE2.out (fun e=>h1 e.1))
     have hne:((mi:Int) != (m0:Int)) = true:=sO
     clear h1 HE1 HE2
     go_wp2
     go_quiet (fail)
     go_wp2
     go_ret
     exact ⟨false,rfl,by simp [HE3.out],by have hb9:=KB.out; exact bel⟩
   ·obtain rfl:i = n:=oM
    go_wp2
    go_ret
    exact ⟨true,rfl,by simp [Vld]; exact ⟨oM,HAL.out⟩,KB.out⟩
theorem rColumns_any (w:World) (v:Value) (n:Nat) (ml:Nat -> Nat) (F:Nat -> Nat -> Cx) (h:QSS w v n ml F) :
  Calls Tryz.prog 104 #[v] w fun e w'=>e = .returned (.int .i64 ((if n = 0 then 0 else ml 0:Nat):Int)) /\ w = w':=by
 obtain ⟨A,c,rfl,h⟩:=h
 by_cases h0:n = 0
 ·subst h0
  rw [if_pos rfl]
  clear h
  go_enter Tryz.func104,Tryz.ntmps104
  go_wp2
  go_ret
  exact ⟨rfl,rfl⟩
 ·rw [if_neg h0]
  obtain ⟨go,gi,rfl,hQ⟩:=h oM
  have f2:=hQ.cell (i:=0) oM
  have hi2:(0:Int) < (n:Int):=oM
  clear hQ
  generalize ml 0 = m0 at *
  go_enter Tryz.func104,Tryz.ntmps104
  go_wp2
  go_ret
  exact ⟨rfl,rfl⟩
end Go.Proofs.YtffegeaflohfhaaGreatDoor
