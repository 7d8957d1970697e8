import Derived.Test.YtjodlmanheeajaaGreatDoorR01
import Derived.Below
import Derived.Test.YtjodlmanheeajaaGreatDoorR07
import Derived.Test.YtjodlmanheeajaaGreatDoorR11
import Derived.Test.YtjodlmanheeajaaGreatDoorR12
import Derived.Test.YtjodlmanheeajaaGreatDoorR13
import Derived.Test.YtjodlmanheeajaaGreatDoorR02
import Derived.Test.YtjodlmanheeajaaGreatDoorR04
import Derived.Test.YtjodlmanheeajaaGreatDoorR14
import Derived.Test.YtjodlmanheeajaaGreatDoorR15
import Derived.Deep.OwnRows
import Derived.Deep.RegionHeld3
import Derived.Laws.CopyOwn
import Derived.Test.YtjodlmanheeajaaGreatDoorR16
import Derived.Test.YtjodlmanheeajaaGreatDoorR17
import Derived.Laws.CopyRow
import Derived.Test.YtjodlmanheeajaaGreatDoorR03
import Derived.Test.YtjodlmanheeajaaGreatDoorR19
import Derived.Laws.BitsAllLaws
import Derived.Laws.LoneSync
set_option linter.unusedVariables false
set_option linter.unusedSimpArgs false
set_option maxRecDepth 100000
set_option maxHeartbeats 8000000
namespace Go.Proofs.YtjodlmanheeajaaGreatDoor
theorem Low.eq {x y:Cx} {a b:Int} {d:Nat} (h:Low x a b d) (h':Low y a b d):x = y:=by
 obtain ⟨hd,hg,h1,h2⟩:=h
 obtain ⟨hd',hg',h1',h2'⟩:=h'
 have:=natCast_ne hd
 exact Cx.ext (by grind) (by grind)
theorem mul_den (p:Rat):p * (p.den:Rat) = (p.num:Rat):=by
 have h:=Rat.mkRat_self p
 rw [Rat.mkRat_eq_div] at h
 have:=natCast_ne p.den_pos
 grind
theorem Low.ex (x:Cx):∃ a b d,Low x a b d:=by
 have h1:x.re * ((x.re.den * x.im.den:Nat):Rat) = ((x.re.num * x.im.den:Int):Rat):=by
  have:=mul_den x.re
  rw [Rat.natCast_mul,Rat.intCast_mul,Rat.intCast_natCast]
  grind
 have h2:x.im * ((x.re.den * x.im.den:Nat):Rat) = ((x.im.num * x.re.den:Int):Rat):=by
  have:=mul_den x.im
  rw [Rat.natCast_mul,Rat.intCast_mul,Rat.intCast_natCast]
  grind
 exact ⟨_,_,_,Low.of (Nat.mul_pos x.re.den_pos x.im.den_pos) h1 h2⟩
theorem Sz.mono {x:Cx} {m n:Nat} (h:Sz x m) (hm:m <= n):Sz x n:=fun a b d hl=>by
 have:=h a b d hl
 omega
def Cx.real (x:Cx):Cx:=⟨x.re,0⟩
def Cx.imag (x:Cx):Cx:=⟨x.im,0⟩
section
variable {x y:Cx} {a b a' b':Int} {d d' n m:Nat}
theorem real_terms (h:Low x a b d):x.real.re * (d:Rat) = (a:Rat) /\ x.real.im * (d:Rat) = ((0:Int):Rat):=⟨h.2.2.1,by simp [Cx.real]⟩
theorem imag_terms (h:Low x a b d):x.imag.re * (d:Rat) = (b:Rat) /\ x.imag.im * (d:Rat) = ((0:Int):Rat):=⟨h.2.2.2,by simp [Cx.imag]⟩
theorem Sz.real (h:Sz x n):Sz x.real n:=by
 obtain ⟨a,b,d,hl⟩:=Low.ex x
 have s:=h _ _ _ hl
 have t:=real_terms hl
 exact Sz.of hl.pos t.1 t.2 oM (by simp [wl_zero]) oM
theorem Sz.imag (h:Sz x n):Sz x.imag n:=by
 obtain ⟨a,b,d,hl⟩:=Low.ex x
 have s:=h _ _ _ hl
 have t:=imag_terms hl
 exact Sz.of hl.pos t.1 t.2 oM (by simp [wl_zero]) oM
end
end Go.Proofs.YtjodlmanheeajaaGreatDoor
namespace Go.Proofs.YtjodlmanheeajaaGreatDoor
open Go.RowKit
theorem Den.em {d:Nat} (h:0 < d):Den d (dn d):=⟨h,by unfold dn; split <;> simp [*]⟩
section
variable {kl:List RK} {B:Nat} {ts:Nat -> Value} {W:World}
end
end Go.Proofs.YtjodlmanheeajaaGreatDoor
namespace Go.Proofs.YtjodlmanheeajaaGreatDoor
open Go.RowKit
theorem reN_any (v:Value) (x:Cx) (w:World) (h:IsNum w v x) (hT:Tab w) (m:Nat) (hx:Sz x m) (hm:m < 549755813888) :
  Calls Tryz.prog 79 #[v] w (RetNum w x.real):=by
 obtain ⟨A1,n1,c1,p1,A2,n2,c2,p2,A3,n3,c3,a,b,d,rfl,hl,hr,hi,hs,-,-,-,-,-⟩:=h.parts
 have hsz:=hx _ _ _ hl
 have HC:=hid (fun W (hb:Below w.heap.size w W)=>lowest_any _ (.agg #[.slice none 0 0,.bool false]) _ _ 0 d _ x.real W (hr.below hb) (IsInt.zero _ _ _) (hs.below hb) (Den.em hl.pos) (real_terms hl).1 (real_terms hl).2 oM (by simp [wl_zero]) oM (hT.below hb))
 clear hl hr hi hs h hx hm hsz hT
 go_enter Tryz.func79,Tryz.ntmps79
 go_wp2_with fail
 refine (HC.out _ bel).mono ?_
 rintro e W5 ⟨v,rfl,hr5,hb5⟩
 obtain ⟨hc5,hf5,hz5⟩:=bcells hb5 (w.heap.size + 2) sP
 obtain ⟨A4,n4,c4,p4,A5,n5,c5,p5,A6,n6,c6,a',b',d',rfl,-⟩:=hr5.parts
 go_wp2
 have NB:NumBox W5 (w.heap.size + 1):=NumBox.of hc5 oM (.nil sG sG sG sG sG)
 refine bodyPost_ret (v:=.agg #[.slice A4 n4 c4,.bool p4,.slice A5 n5 c5,.bool p5,.slice A6 n6 c6]) (by simp [results,Tryz.results79]; exact run_load5 NB _ _ _ _ _) rfl ?_
 exact RetNum.box bel oM NB hr5 _ _ _ _ _
theorem imN_any (v:Value) (x:Cx) (w:World) (h:IsNum w v x) (hT:Tab w) (m:Nat) (hx:Sz x m) (hm:m < 549755813888) :
  Calls Tryz.prog 76 #[v] w (RetNum w x.imag):=by
 obtain ⟨A1,n1,c1,p1,A2,n2,c2,p2,A3,n3,c3,a,b,d,rfl,hl,hr,hi,hs,-,-,-,-,-⟩:=h.parts
 have hsz:=hx _ _ _ hl
 have HC:=hid (fun W (hb:Below w.heap.size w W)=>lowest_any _ (.agg #[.slice none 0 0,.bool false]) _ _ 0 d _ x.imag W (hi.below hb) (IsInt.zero _ _ _) (hs.below hb) (Den.em hl.pos) (imag_terms hl).1 (imag_terms hl).2 oM (by simp [wl_zero]) oM (hT.below hb))
 clear hl hr hi hs h hx hm hsz hT
 go_enter Tryz.func76,Tryz.ntmps76
 go_wp2_with fail
 refine (HC.out _ bel).mono ?_
 rintro e W5 ⟨v,rfl,hr5,hb5⟩
 obtain ⟨hc5,hf5,hz5⟩:=bcells hb5 (w.heap.size + 2) sP
 obtain ⟨A4,n4,c4,p4,A5,n5,c5,p5,A6,n6,c6,a',b',d',rfl,-⟩:=hr5.parts
 go_wp2
 have NB:NumBox W5 (w.heap.size + 1):=NumBox.of hc5 oM (.nil sG sG sG sG sG)
 refine bodyPost_ret (v:=.agg #[.slice A4 n4 c4,.bool p4,.slice A5 n5 c5,.bool p5,.slice A6 n6 c6]) (by simp [results,Tryz.results76]; exact run_load5 NB _ _ _ _ _) rfl ?_
 exact RetNum.box bel oM NB hr5 _ _ _ _ _
def cmpI (x y:Int):Int:=if x < y then -1 else if x = y then 0 else 1
theorem cmpI_of (x y:Int):cmpI x y = if decide (x < 0) ≠ decide (y < 0) then ordI (decide (x < 0)) else if decide (x < 0) then cmpN y.natAbs x.natAbs else cmpN x.natAbs y.natAbs:=by
 unfold cmpI cmpN ordI
 by_cases hx:x < 0 <;> by_cases hy:y < 0 <;> simp [hx,hy] <;> (repeat' split) <;> omega
theorem sameI_any (v u:Value) (x y:Int) (w:World) (h:IsInt w v x) (h':IsInt w u y) (hn:wl x.natAbs <= 1099511627776) (hm:wl y.natAbs <= 1099511627776) :
  Calls Tryz.prog 103 #[v,u] w fun e w'=>e = .returned (.bool (decide (x = y))) /\ Below w.heap.size w w':=by
 have hd:decide (x = y) = if decide (x < 0) ≠ decide (y < 0) then false else decide (cmpN x.natAbs y.natAbs = 0):=by
  rw [Bool.eq_iff_iff]
  unfold cmpN
  by_cases hx:x < 0 <;> by_cases hy:y < 0 <;> simp [hx,hy] <;> (repeat' split) <;> omega
 rw [hd]
 obtain ⟨s,rfl,hs⟩:=h
 obtain ⟨A,n,c,rfl,hnn⟩:=hs.ex
 obtain ⟨s',rfl,hs'⟩:=h'
 obtain ⟨A',n',c',rfl,hnn'⟩:=hs'.ex
 clear hnn hnn'
 have HC:=hid (fun W (hb:Below w.heap.size w W)=>compare_any _ _ _ _ W (hs.below hb) (hs'.below hb) hn hm)
 clear hs hs' hn hm hd
 generalize cmpN x.natAbs y.natAbs = k at *
 cases decide (x < 0) <;> cases decide (y < 0)
 all_goals
  go_enter Tryz.func103,Tryz.ntmps103
  go_wp2_with (first | (go_at_call 104; refine (HC.out _ (bT (below_alloc _ _) (below_alloc _ _))).mono ?_; rintro e w' ⟨rfl,q,rfl⟩) | fail)
  go_ret
  first
   | exact ⟨rfl,bT (below_alloc _ _) (below_alloc _ _)⟩
   | exact ⟨by simp; rfl,bT (bT (below_alloc _ _) (below_alloc _ _)) (below_drewN _ _)⟩
theorem sameN_any (v u:Value) (x y:Cx) (w:World) (h:IsNum w v x) (h':IsNum w u y) (m:Nat) (hx:Sz x m) (hy:Sz y m) (hm:m < 549755813888) :
  Calls Tryz.prog 52 #[v,u] w fun e w'=>e = .returned (.bool (decide (x = y))) /\ Below w.heap.size w w':=by
 obtain ⟨A1,n1,c1,p1,A2,n2,c2,p2,A3,n3,c3,a,b,d,rfl,hl,hr,hi,hs,-,-,-,-,-⟩:=h.parts
 obtain ⟨A4,n4,c4,p4,A5,n5,c5,p5,A6,n6,c6,a',b',d',rfl,hl',hr',hi',hs',-,-,-,-,-⟩:=h'.parts
 have s1:=hx _ _ _ hl
 have s2:=hy _ _ _ hl'
 have hd:decide (x = y) = (decide (a = a') && decide (b = b') && (cmpN (dn d) (dn d') == 0)):=by
  rw [Bool.eq_iff_iff]
  have hdn:cmpN (dn d) (dn d') = 0 ↔ d = d':=by
   have:=hl.pos
   have:=hl'.pos
   unfold cmpN dn
   (repeat' split) <;> omega
  simp only [Bool.and_eq_true,decide_eq_true_eq,beq_iff_eq,hdn]
  constructor
  ·rintro rfl
   obtain ⟨e1,e2,e3⟩:=hl.uniq hl'
   exact ⟨⟨e1,e2⟩,e3⟩
  ·rintro ⟨⟨rfl,rfl⟩,rfl⟩
   exact hl.eq hl'
 rw [hd]
 have w1:wl (dn d) <= wl d:=wl_mono (by unfold dn; split <;> omega)
 have w2:wl (dn d') <= wl d':=wl_mono (by unfold dn; split <;> omega)
 have HA:=hid (fun W (hb:Below w.heap.size w W)=>sameI_any _ _ _ _ W (hr.below hb) (hr'.below hb) oM oM)
 have HB:=hid (fun W (hb:Below w.heap.size w W)=>sameI_any _ _ _ _ W (hi.below hb) (hi'.below hb) oM oM)
 have HC:=hid (fun W (hb:Below w.heap.size w W)=>compare_any _ _ _ _ W (hs.below hb) (hs'.below hb) oM oM)
 clear hd w1 w2 s1 s2 hl hl' hr hi hs hr' hi' hs' h h' hx hy
 generalize cmpN (dn d) (dn d') = k at *
 generalize decide (a = a') = p at *
 generalize decide (b = b') = q at *
 cases p
 ·go_enter Tryz.func52,Tryz.ntmps52
  go_wp2_with fail
  refine (HA.out _ bel).mono ?_
  rintro e W7 ⟨rfl,hb7⟩
  obtain ⟨hc7,hf7,hz7⟩:=bcells hb7 (w.heap.size + 2) sP
  go_wp2
  go_ret
  exact ⟨sP,bel⟩
 ·cases q
  ·go_enter Tryz.func52,Tryz.ntmps52
   go_wp2_with fail
   refine (HA.out _ bel).mono ?_
   rintro e W7 ⟨rfl,hb7⟩
   obtain ⟨hc7,hf7,hz7⟩:=bcells hb7 (w.heap.size + 2) sP
   go_wp2_with fail
   refine (HB.out _ bel).mono ?_
   rintro e W8 ⟨rfl,hb8⟩
   obtain ⟨hc8,hf8,hz8⟩:=bcells hb8 (w.heap.size + 2) oM
   go_wp2
   go_ret
   exact ⟨sP,bel⟩
  ·go_enter Tryz.func52,Tryz.ntmps52
   go_wp2_with fail
   refine (HA.out _ bel).mono ?_
   rintro e W7 ⟨rfl,hb7⟩
   obtain ⟨hc7,hf7,hz7⟩:=bcells hb7 (w.heap.size + 2) sP
   go_wp2_with fail
   refine (HB.out _ bel).mono ?_
   rintro e W8 ⟨rfl,hb8⟩
   obtain ⟨hc8,hf8,hz8⟩:=bcells hb8 (w.heap.size + 2) oM
   have B8:Below w.heap.size w W8:=bel
   go_wp2_with fail
   refine (HC.out _ B8).mono ?_
   rintro e W9 ⟨rfl,q9,rfl⟩
   go_wp2
   go_ret
   exact ⟨sP,bel⟩
end Go.Proofs.YtjodlmanheeajaaGreatDoor
namespace Go.Proofs.YtjodlmanheeajaaGreatDoor
open Go.RowKit
def Cx.ratio (a b d:Int):Cx:=⟨(a:Rat) / (d:Rat),(b:Rat) / (d:Rat)⟩
theorem ratio_terms {p d:Int} (hd:d ≠ 0):((p:Rat) / (d:Rat)) * ((d.natAbs:Nat):Rat) = ((if decide (d < 0) then -p else p:Int):Rat):=by
 have hd':(d:Rat) ≠ 0:=by
  intro e
  exact hd (Rat.intCast_inj.1 (by rw [e]; simp))
 by_cases h:d < 0
 ·rw [if_pos (by simpa using h)]
  have e1:((d.natAbs:Nat):Rat) = -(d:Rat):=by
   rw [<- Rat.intCast_natCast,<- Rat.intCast_neg]
   congr 1
   omega
  rw [e1,Rat.intCast_neg]
  grind
 ·rw [if_neg (by simpa using h)]
  have e1:((d.natAbs:Nat):Rat) = (d:Rat):=by
   rw [<- Rat.intCast_natCast]
   congr 1
   omega
  rw [e1]
  grind
theorem wl_i64 {z:Int} (h1:-9223372036854775808 <= z) (h2:z < 9223372036854775808):wl z.natAbs <= 2:=by
 have:=wl_mono (x:=z.natAbs) (y:=9223372036854775808) oM
 have e:wl 9223372036854775808 = 2:=dK
 omega
theorem new_any (p q r:Int) (w:World) (hp:-9223372036854775808 <= p) (hp':p < 9223372036854775808) (hq:-9223372036854775808 <= q) (hq':q < 9223372036854775808) (hr:-9223372036854775808 <= r) (hr':r < 9223372036854775808) (h0:r ≠ 0) (hT:Tab w) :
  Calls Tryz.prog 62 #[.int .i64 p,.int .i64 q,.int .i64 r] w (RetNumE w (.ratio p q r) 0):=by
 have s1:=wl_i64 hp hp'
 have s2:=wl_i64 hq hq'
 have s3:=wl_i64 hr hr'
 have FR:=hid (fun W=>fromInt_any r W hr hr')
 have FP:=hid (fun W=>fromInt_any p W hp hp')
 have FQ:=hid (fun W=>fromInt_any q W hq hq')
 have HLo:=hid (fun W v u t (hb:Below w.heap.size w W) (h1:IsInt W v (if decide (r < 0) then -p else p)) (h2:IsInt W u (if decide (r < 0) then -q else q)) (h3:IsNat W t r.natAbs) =>
  lowest_any v u t _ _ r.natAbs _ (.ratio p q r) W h1 h2 h3 (Den.self oM) (ratio_terms h0) (ratio_terms h0) (by split <;> (try rw [Int.natAbs_neg]) <;> omega) (by split <;> (try rw [Int.natAbs_neg]) <;> omega) oM (hT.below hb))
 have r1:(r == 0) = false:=by simpa using h0
 have HS1:=hid (fun W v b (h:IsInt W v p)=>signed_any v p b W h)
 have HS2:=hid (fun W v b (h:IsInt W v q)=>signed_any v q b W h)
 clear s1 s2 s3 hp hp' hq hq' hr hr' h0 hT
 go_enter Tryz.func62,Tryz.ntmps62
 go_wp2_with fail
 refine (FR.out _).mono ?_
 rintro e W7 ⟨v,rfl,hr7,hb7⟩
 obtain ⟨hc7,hf7,hz7⟩:=bcells hb7 (w.heap.size + 1) sP
 obtain ⟨A7,n7,c7,rfl,-,hn7⟩:=hr7.parts
 have hn7':IsNat W7 (.slice A7 n7 c7) r.natAbs:=hn7
 generalize decide (r < 0) = q7 at *
 go_upto_region 4 with fail
 obtain ⟨W1,hW1⟩:∃ W1:World,W1 = W7.alloc (.cells #[.slice A7 n7 c7,.bool q7] 47):=⟨_,rfl⟩
 rw [<- hW1]
 have B1:Below w.heap.size w W1:=by rw [hW1]; exact bel
 have hz1:w.heap.size + 1 <= W7.heap.size /\ W7.heap.size < W1.heap.size:=by rw [hW1]; simp; omega
 have hn1:IsNat W1 (.slice A7 n7 c7) r.natAbs:=by rw [hW1]; exact hn7.below (below_alloc _ _)
 have f8_0:W1.cell? ⟨W7.heap.size,0,none⟩ = some (.slice A7 n7 c7):=by rw [hW1]; simp [go_sem]
 have f8_1:W1.cell? ⟨W7.heap.size,1,none⟩ = some (.bool q7):=by rw [hW1]; simp [go_sem]
 have z0:W1.cell? ⟨w.heap.size,0,none⟩ = some (.slice none 0 0):=by rw [hW1,((below_alloc W7 _).cell (p:=⟨w.heap.size,0,none⟩) (by simp <;> omega))]; exact (hc7 _ _ oM).trans sG
 have z1:W1.cell? ⟨w.heap.size,1,none⟩ = some (.bool false):=by rw [hW1,((below_alloc W7 _).cell (p:=⟨w.heap.size,1,none⟩) (by simp <;> omega))]; exact (hc7 _ _ oM).trans sG
 have z2:W1.cell? ⟨w.heap.size,2,none⟩ = some (.slice none 0 0):=by rw [hW1,((below_alloc W7 _).cell (p:=⟨w.heap.size,2,none⟩) (by simp <;> omega))]; exact (hc7 _ _ oM).trans sG
 have z3:W1.cell? ⟨w.heap.size,3,none⟩ = some (.bool false):=by rw [hW1,((below_alloc W7 _).cell (p:=⟨w.heap.size,3,none⟩) (by simp <;> omega))]; exact (hc7 _ _ oM).trans sG
 have z4:W1.cell? ⟨w.heap.size,4,none⟩ = some (.slice none 0 0):=by rw [hW1,((below_alloc W7 _).cell (p:=⟨w.heap.size,4,none⟩) (by simp <;> omega))]; exact (hc7 _ _ oM).trans sG
 have yz:∀ o,W1.frozen? ⟨w.heap.size,o,none⟩ = false:=fun o=>by rw [hW1,((below_alloc W7 _).frozen (p:=⟨w.heap.size,o,none⟩) (by simp <;> omega))]; exact (hf7 _ _ oM).trans sG
 have yz0:=yz 0
 have yz1:=yz 1
 have yz2:=yz 2
 have yz3:=yz 3
 have yz4:=yz 4
 clear hc7 hf7 hr7 hn7 hn7' hW1 yz
 have NB1:NumBox W1 w.heap.size:=.nil z0 z1 z2 z3 z4
 have ne1:w.heap.size ≠ W7.heap.size:=oM
 have ne2:W7.heap.size ≠ w.heap.size:=oM
 have lt0_0:w.heap.size < W1.heap.size:=oM
 have lt0_1:W7.heap.size < W1.heap.size:=oM
 have ne0_0_0:w.heap.size ≠ W1.heap.size:=oM
 have en0_0_0:W1.heap.size ≠ w.heap.size:=oM
 have ne0_1_0:W7.heap.size ≠ W1.heap.size:=oM
 have en0_1_0:W1.heap.size ≠ W7.heap.size:=oM
 go_region_held3 (fun w'=>w'.cell? ⟨W7.heap.size,0,none⟩ = some (.slice A7 n7 c7) /\ w'.cell? ⟨W7.heap.size,1,none⟩ = some (.bool q7)) (go_keep) (first | (go_at_call 116; (first | ((with_reducible refine (FP.out _).mono ?_);  (rintro e W17 ⟨r17,rfl,hr17,hb17⟩; obtain ⟨A17,n17,c17,rfl,-,-⟩:=hr17.parts; generalize decide (p < 0) = q17 at *; have kb17:Below W1.heap.size W1 W17:=bel; clear hb17; obtain ⟨hc17,hf17,hz17⟩:=bcells kb17 (W1.heap.size) oM; have ne17_0_0:w.heap.size ≠ W17.heap.size:=oM; have en17_0_0:W17.heap.size ≠ w.heap.size:=oM; have ne17_1_0:W7.heap.size ≠ W17.heap.size:=oM; have en17_1_0:W17.heap.size ≠ W7.heap.size:=oM)) | ((with_reducible refine (FQ.out _).mono ?_);  (rintro e W19 ⟨r19,rfl,hr19,hb19⟩; obtain ⟨A19,n19,c19,rfl,-,-⟩:=hr19.parts; generalize decide (q < 0) = q19 at *; have kb19:Below W18.heap.size W18 W19:=bel; clear hb19; obtain ⟨hc19,hf19,hz19⟩:=bcells kb19 (W1.heap.size) oM)))) | (go_at_call 118; (first | ((with_reducible refine (HS1.out _ _ _ ?_).mono ?_); (exact hr17.below bel); (rintro e W18 ⟨r18,rfl,hr18,hb18⟩; obtain ⟨A18,n18,c18,rfl,-,-⟩:=hr18.parts; generalize decide ((if q7 then -p else p) < 0) = q18 at *; have kb18:Below W17.heap.size W17 W18:=bel; clear hb18; obtain ⟨hc18,hf18,hz18⟩:=bcells kb18 (W1.heap.size) oM)) | ((with_reducible refine (HS2.out _ _ _ ?_).mono ?_); (exact hr19.below bel); (rintro e W20 ⟨r20,rfl,hr20,hb20⟩; obtain ⟨A20,n20,c20,rfl,-,-⟩:=hr20.parts; generalize decide ((if q7 then -q else q) < 0) = q20 at *; have kb20:Below W19.heap.size W19 W20:=bel; clear hb20; obtain ⟨hc20,hf20,hz20⟩:=bcells kb20 (W1.heap.size) oM)))) | (go_at_call 117; (first | ((with_reducible refine (HLo.out _ _ _ _ ?_ ?_ ?_ ?_).mono ?_); (exact bel); (exact hr18.below bel); (exact hr20.below bel); (exact hn1.below (bT (bT (bT kb17 kb18) kb19) bel)); (rintro e W21 ⟨r21,rfl,hr21,hb21⟩; obtain ⟨A21,n21,c21,p21,A21',n21',c21',p21',A21'',n21'',c21'',a21,b21,d21,rfl,-⟩:=hr21.parts; have kb21:Below W20.heap.size W20 W21:=bel; clear hb21; obtain ⟨hc21,hf21,hz21⟩:=bcells kb21 (W1.heap.size) oM)))))
 go_wp2
 have KB:=bT (bT (bT (bT kb17 kb18) kb19) kb20) kb21
 have B9:=bT B1 KB
 obtain ⟨hc9,hf9,hz9⟩:=bcells KB (W1.heap.size) oM
 have NB9:NumBox W21 w.heap.size:=NumBox.of hc9 oM NB1
 refine bodyPost_ret (v:=.tuple #[.agg #[.slice A21 n21 c21,.bool p21,.slice A21' n21' c21',.bool p21',.slice A21'' n21'' c21''],.int .i64 0]) (by simp [results,Tryz.results62]; exact run_load5e NB9 _ _ _ _ _ _) rfl ?_
 exact RetNumE.box B9 oM NB9 hr21 _ _ _ _ _
end Go.Proofs.YtjodlmanheeajaaGreatDoor
namespace Go.Proofs.YtjodlmanheeajaaGreatDoor
open Go.RowKit
section
variable {B:Nat} {W W':World} {go:Nat} {gi:Nat -> Nat} {n m k:Nat} {F F':Nat -> Nat -> Cx}
theorem IsNum.zero (W:World):IsNum W (.agg zNum) .zero:=by
 refine ⟨_,_,_,_,_,0,0,1,rfl,Low.zero,?_,?_,IsNat.zero _ _ _⟩
 ·exact ⟨_,rfl,IsNat.zero _ _ _⟩
 ·exact ⟨_,rfl,IsNat.zero _ _ _⟩
end
end Go.Proofs.YtjodlmanheeajaaGreatDoor
namespace Go.Proofs.YtjodlmanheeajaaGreatDoor
open Go.RowKit
theorem run_load5a {w:World} {g:Nat} (h:NumBox w g) (hg:g < w.heap.size) (v0 v1 v2 v3 v4:Value) (C:Array Value) (T:TypeId) :
  ((Sem.run Tryz.prog (asAddr (Value.pointer (some { block:=g,off:=0 }))) ((((((w.setCell ⟨g,0,none⟩ v0).setCell ⟨g,1,none⟩ v1).setCell ⟨g,2,none⟩ v2).setCell ⟨g,3,none⟩ v3).setCell ⟨g,4,none⟩ v4).alloc (.cells C T))).andThen
   fun a w'=>Sem.run Tryz.prog (loadVar 49 a) w') =
  Result.ok (Value.agg #[v0,v1,v2,v3,v4]) ((((((w.setCell ⟨g,0,none⟩ v0).setCell ⟨g,1,none⟩ v1).setCell ⟨g,2,none⟩ v2).setCell ⟨g,3,none⟩ v3).setCell ⟨g,4,none⟩ v4).alloc (.cells C T)):=by
 obtain ⟨o0,o1,o2,o3,o4,h0,h1,h2,h3,h4,-⟩:=h
 simp [go_sem,h0,h1,h2,h3,h4,hg]
theorem RetNum.alloc {w W:World} {x:Cx} {e:Ending} (h:RetNum w x e W) (o:Obj):RetNum w x e (W.alloc o):=by
 obtain ⟨v,h1,h2,h3⟩:=h
 exact ⟨v,h1,h2.below (below_alloc W o),bT h3 (below_alloc W o)⟩
def ofR (p q r:Int):Cx:=.ratio p q (if r = 0 then 1 else r)
theorem of_any (p q r:Int) (w:World) (hp:-9223372036854775808 <= p) (hp':p < 9223372036854775808) (hq:-9223372036854775808 <= q) (hq':q < 9223372036854775808) (hr:-9223372036854775808 <= r) (hr':r < 9223372036854775808) (hT:Tab w) :
  Calls Tryz.prog 17 #[.agg #[.int .i64 p,.int .i64 q,.int .i64 r]] w (RetNum w (ofR p q r)):=by
 by_cases h0:r = 0
 ·subst h0
  have HN:=hid (fun W (hb:Below w.heap.size w W)=>new_any p q 1 W hp hp' hq hq' oM oM oM (hT.below hb))
  have hx:ofR p q 0 = .ratio p q 1:=rfl
  rw [hx]
  clear hp hp' hq hq' hr hr' hT hx
  go_enter Tryz.func17,Tryz.ntmps17
  go_wp2_with fail
  refine (HN.out _ bel).mono ?_
  rintro e W7 ⟨v,rfl,hr7,hb7⟩
  obtain ⟨A1,n1,c1,p1,A2,n2,c2,p2,A3,n3,c3,a,b,d,rfl,-⟩:=hr7.parts
  obtain ⟨hc7,hf7,hz7⟩:=bcells hb7 (w.heap.size + 2) sP
  have lt0:w.heap.size < W7.heap.size:=oM
  have lt1:w.heap.size + 1 < W7.heap.size:=oM
  go_wp2
  have B7:Below w.heap.size w W7:=bel
  have NB:NumBox W7 (w.heap.size + 1):=NumBox.of hc7 (g:=w.heap.size + 1) oM (.nil sG sG sG sG sG)
  refine bodyPost_ret (v:=.agg #[.slice A1 n1 c1,.bool p1,.slice A2 n2 c2,.bool p2,.slice A3 n3 c3]) (by simp [results,Tryz.results17]; exact run_load5a NB lt1 _ _ _ _ _ _ _) rfl ?_
  exact (RetNum.box B7 oM NB hr7 _ _ _ _ _).alloc _
 ·have HN:=hid (fun W (hb:Below w.heap.size w W)=>new_any p q r W hp hp' hq hq' hr hr' h0 (hT.below hb))
  have hx:ofR p q r = .ratio p q r:=by unfold ofR; rw [if_neg h0]
  rw [hx]
  have hb0:(r == 0) = false:=by simpa using h0
  clear hp hp' hq hq' hr hr' hT hx h0
  go_enter Tryz.func17,Tryz.ntmps17
  go_wp2_with fail
  refine (HN.out _ bel).mono ?_
  rintro e W7 ⟨v,rfl,hr7,hb7⟩
  obtain ⟨A1,n1,c1,p1,A2,n2,c2,p2,A3,n3,c3,a,b,d,rfl,-⟩:=hr7.parts
  obtain ⟨hc7,hf7,hz7⟩:=bcells hb7 (w.heap.size + 2) sP
  have lt0:w.heap.size < W7.heap.size:=oM
  have lt1:w.heap.size + 1 < W7.heap.size:=oM
  go_wp2
  have B7:Below w.heap.size w W7:=bel
  have NB:NumBox W7 (w.heap.size + 1):=NumBox.of hc7 (g:=w.heap.size + 1) oM (.nil sG sG sG sG sG)
  refine bodyPost_ret (v:=.agg #[.slice A1 n1 c1,.bool p1,.slice A2 n2 c2,.bool p2,.slice A3 n3 c3]) (by simp [results,Tryz.results17]; exact run_load5a NB lt1 _ _ _ _ _ _ _) rfl ?_
  exact (RetNum.box B7 oM NB hr7 _ _ _ _ _).alloc _
end Go.Proofs.YtjodlmanheeajaaGreatDoor
namespace Go.Proofs.YtjodlmanheeajaaGreatDoor
end Go.Proofs.YtjodlmanheeajaaGreatDoor
namespace Go.Proofs.YtjodlmanheeajaaGreatDoor
open Go.RowKit
def nearB (a:Int) (d:Nat):Nat:=flt (rdF 53 (-1074) 971 a.natAbs d 2) (decide (a < 0))
theorem near_any (v:Value) (x:Cx) (a b:Int) (d:Nat) (w:World) (h:IsNum w v x) (hx:Low x a b d) (sa:wl a.natAbs < 268435456) (sb:wl b.natAbs < 268435456) (sd:wl d < 268435456) :
  Calls Tryz.prog 49 #[v] w fun e w'=>e = .returned (.complex .f64 (nearB a d) (nearB b d)) /\ Below w.heap.size w w':=by
 have HD:=hid (fun W (hb:Below w.heap.size w W)=>denominator_any _ _ W (h.below hb) a b d hx)
 obtain ⟨A1,n1,c1,p1,A2,n2,c2,p2,A3,n3,c3,a',b',d',rfl,hl,hr,hi,hs,-,hq1,hq2,hra,hib⟩:=h.parts
 obtain ⟨rfl,rfl,rfl⟩:=hx.uniq hl
 have hd:=hl.pos
 have HDb:=hid (fun W=>double_any W)
 have hra':∀ W u (hb:Below w.heap.size w W) (hu:IsNat W u d),Calls Tryz.prog 100 #[fmtV 53 (-1074) 971,.slice A1 n1 c1,u,.int .i64 2] W fun e w'=>e = .returned (.int .u64 ((rdF 53 (-1074) 971 a.natAbs d 2:Nat):Int)) /\ Below W.heap.size W w' :=
  fun W u hb hu=>round_any _ u _ _ 53 (-1074) 971 2 W Fm.double (hra.below hb) hu hd sa sd oM
 have hib':∀ W u (hb:Below w.heap.size w W) (hu:IsNat W u d),Calls Tryz.prog 100 #[fmtV 53 (-1074) 971,.slice A2 n2 c2,u,.int .i64 2] W fun e w'=>e = .returned (.int .u64 ((rdF 53 (-1074) 971 b.natAbs d 2:Nat):Int)) /\ Below W.heap.size W w' :=
  fun W u hb hu=>round_any _ u _ _ 53 (-1074) 971 2 W Fm.double (hib.below hb) hu hd sb sd oM
 have HRa:=hid hra'
 have HRb:=hid hib'
 have la:=rdF_lt (p:=a.natAbs) Fm.double hd 2
 have lb:=rdF_lt (p:=b.natAbs) Fm.double hd 2
 have HTa:=hid (fun W=>toFloat_any (rdF 53 (-1074) 971 a.natAbs d 2) p1 W la)
 have HTb:=hid (fun W=>toFloat_any (rdF 53 (-1074) 971 b.natAbs d 2) p2 W lb)
 have hna:nearB a d = flt (rdF 53 (-1074) 971 a.natAbs d 2) p1:=by rw [hq1]; rfl
 have hnb:nearB b d = flt (rdF 53 (-1074) 971 b.natAbs d 2) p2:=by rw [hq2]; rfl
 rw [hna,hnb]
 clear la lb hna hnb hra' hib' hd hq1 hq2 hra hib hl hr hi hs h hx sa sb sd
 generalize rdF 53 (-1074) 971 a.natAbs d 2 = ma at *
 generalize rdF 53 (-1074) 971 b.natAbs d 2 = mb at *
 go_enter Tryz.func49,Tryz.ntmps49
 go_upto_region 1 with fail
 obtain ⟨W1,hW1⟩:∃ W1:World,W1 = (w.alloc (.cells #[.slice A1 n1 c1,.bool p1,.slice A2 n2 c2,.bool p2,.slice A3 n3 c3] 49)):=⟨_,rfl⟩
 rw [<- hW1]
 have B1:Below w.heap.size w W1:=by rw [hW1]; exact bel
 have hz1:w.heap.size + 1 <= W1.heap.size:=by rw [hW1]; simp
 obtain ⟨f0_0,f0_1,f0_2,f0_3,f0_4,yf0_0,yf0_1,yf0_2,yf0_3,yf0_4⟩:Bx5 W1 (w.heap.size) (.slice A1 n1 c1) (.bool p1) (.slice A2 n2 c2) (.bool p2) (.slice A3 n3 c3):=by rw [hW1]; simp [Bx5,go_sem]
 clear hW1
 have lt0_0:w.heap.size < W1.heap.size:=oM
 have ne0_0_0:w.heap.size ≠ W1.heap.size:=oM
 have en0_0_0:W1.heap.size ≠ w.heap.size:=oM
 go_region_held3 (fun w'=>w'.cell? ⟨w.heap.size,0,none⟩ = some (.slice A1 n1 c1) /\ w'.cell? ⟨w.heap.size,1,none⟩ = some (.bool p1) /\ w'.cell? ⟨w.heap.size,2,none⟩ = some (.slice A2 n2 c2) /\ w'.cell? ⟨w.heap.size,3,none⟩ = some (.bool p2) /\ w'.cell? ⟨w.heap.size,4,none⟩ = some (.slice A3 n3 c3)) (go_keep) (first | (go_at_call 99; (first | ((with_reducible refine (HDb.out _).mono ?_);  (rintro e W7 ⟨rfl,hb7⟩; have kb7:Below W1.heap.size W1 W7:=bel; clear hb7; obtain ⟨hc7,hf7,hz7⟩:=bcells kb7 (W1.heap.size) oM)))) | (go_at_call 101; (first | ((with_reducible refine (HD.out _ ?_).mono ?_); (exact bel); (rintro e W8 ⟨r8,rfl,hr8,hb8⟩; obtain ⟨A8,n8,c8,rfl,hnn8⟩:=hr8.ex; clear hnn8; have kb8:Below W7.heap.size W7 W8:=bel; clear hb8; obtain ⟨hc8,hf8,hz8⟩:=bcells kb8 (W1.heap.size) oM)))) | (go_at_call 100; (first | ((with_reducible refine (HRa.out _ _ ?_ ?_).mono ?_); (exact bel); (exact hr8.below bel); (rintro e W9 ⟨rfl,hb9⟩; have kb9:Below W8.heap.size W8 W9:=bel; clear hb9; obtain ⟨hc9,hf9,hz9⟩:=bcells kb9 (W1.heap.size) oM)))))
 go_wp2_with fail
 have KB:=bT (bT kb7 kb8) kb9
 have B9:=bT B1 KB
 have hK9:=(Kept.refl W1 lR).below KB
 have hz9':W1.heap.size <= W9.heap.size:=hK9.2.2.1
 obtain ⟨g0_0,g0_1,g0_2,g0_3,g0_4,yg0_0,yg0_1,yg0_2,yg0_3,yg0_4⟩:=hK9.k5 (b:=w.heap.size) oM f0_0 f0_1 f0_2 f0_3 f0_4 yf0_0 yf0_1 yf0_2 yf0_3 yf0_4
 clear hK9 KB hc7 hf7 hc8 hf8 hc9 hf9 kb7 kb8 kb9 f0_0 yf0_0 f0_1 yf0_1 f0_2 yf0_2 f0_3 yf0_3 f0_4 yf0_4
 have lt9_0:w.heap.size < W9.heap.size:=oM
 have ne9_0_0:w.heap.size ≠ W9.heap.size:=oM
 have en9_0_0:W9.heap.size ≠ w.heap.size:=oM
 go_region_held3 (fun w'=>w'.cell? ⟨w.heap.size,0,none⟩ = some (.slice A1 n1 c1) /\ w'.cell? ⟨w.heap.size,1,none⟩ = some (.bool p1) /\ w'.cell? ⟨w.heap.size,2,none⟩ = some (.slice A2 n2 c2) /\ w'.cell? ⟨w.heap.size,3,none⟩ = some (.bool p2) /\ w'.cell? ⟨w.heap.size,4,none⟩ = some (.slice A3 n3 c3)) (go_keep) (first | (go_at_call 99; (first | ((with_reducible refine (HDb.out _).mono ?_);  (rintro e W17 ⟨rfl,hb17⟩; have kb17:Below W9.heap.size W9 W17:=bel; clear hb17; obtain ⟨hc17,hf17,hz17⟩:=bcells kb17 (W9.heap.size) oM)))) | (go_at_call 101; (first | ((with_reducible refine (HD.out _ ?_).mono ?_); (exact bel); (rintro e W18 ⟨r18,rfl,hr18,hb18⟩; obtain ⟨A18,n18,c18,rfl,hnn18⟩:=hr18.ex; clear hnn18; have kb18:Below W17.heap.size W17 W18:=bel; clear hb18; obtain ⟨hc18,hf18,hz18⟩:=bcells kb18 (W9.heap.size) oM)))) | (go_at_call 100; (first | ((with_reducible refine (HRb.out _ _ ?_ ?_).mono ?_); (exact bel); (exact hr18.below bel); (rintro e W19 ⟨rfl,hb19⟩; have kb19:Below W18.heap.size W18 W19:=bel; clear hb19; obtain ⟨hc19,hf19,hz19⟩:=bcells kb19 (W9.heap.size) oM)))))
 go_wp2_with fail
 have KB:=bT (bT kb17 kb18) kb19
 have B19:=bT B9 KB
 have hK19:=(Kept.refl W9 lR).below KB
 have hz19':W9.heap.size <= W19.heap.size:=hK19.2.2.1
 obtain ⟨j0_0,j0_1,j0_2,j0_3,j0_4,yj0_0,yj0_1,yj0_2,yj0_3,yj0_4⟩:=hK19.k5 (b:=w.heap.size) oM g0_0 g0_1 g0_2 g0_3 g0_4 yg0_0 yg0_1 yg0_2 yg0_3 yg0_4
 clear hK19 KB hc17 hf17 hc18 hf18 hc19 hf19 kb17 kb18 kb19 g0_0 yg0_0 g0_1 yg0_1 g0_2 yg0_2 g0_3 yg0_3 g0_4 yg0_4
 have lt19_0:w.heap.size < W19.heap.size:=oM
 have ne19_0_0:w.heap.size ≠ W19.heap.size:=oM
 have en19_0_0:W19.heap.size ≠ w.heap.size:=oM
 go_region_held3 (fun w'=>w'.cell? ⟨w.heap.size,1,none⟩ = some (.bool p1) /\ w'.cell? ⟨w.heap.size,3,none⟩ = some (.bool p2)) (go_keep) (first | (go_at_call 102; (first | ((with_reducible refine (HTa.out _).mono ?_); (rintro e W20 ⟨rfl,rfl⟩)) | ((with_reducible refine (HTb.out _).mono ?_); (rintro e W21 ⟨rfl,rfl⟩)))))
 go_wp2
 go_ret
 exact ⟨rfl,(by (repeat (first | exact Below.refl _ _ | assumption | exact B19 | with_reducible refine Below.drew ?_ | with_reducible refine bT ?_ (below_alloc _ _) | with_reducible refine bT ?_ (below_drewN _ _) | with_reducible refine Below.setCell ?_ (by simp <;> omega) _ | refine bT ?_ (by assumption))))⟩
end Go.Proofs.YtjodlmanheeajaaGreatDoor
