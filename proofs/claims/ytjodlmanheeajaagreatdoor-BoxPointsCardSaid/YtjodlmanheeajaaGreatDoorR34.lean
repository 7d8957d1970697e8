import Derived.Test.YtjodlmanheeajaaGreatDoorR13
import Derived.Test.YtjodlmanheeajaaGreatDoorR18
import Derived.Test.YtjodlmanheeajaaGreatDoorR19
import Derived.Test.YtjodlmanheeajaaGreatDoorR24
import Derived.Test.YtjodlmanheeajaaGreatDoorR28
import Derived.Test.YtjodlmanheeajaaGreatDoorR02
set_option linter.unusedVariables false
set_option linter.unusedSimpArgs false
set_option maxRecDepth 100000
set_option maxHeartbeats 8000000
namespace Go.Proofs.YtjodlmanheeajaaGreatDoor
open Go.RowKit
theorem store_float (a:Addr) (b:Nat) (m:Mode) (W:World):(store a (.float .f64 b) m).run Tryz.prog W = stored Tryz.prog W a (.float .f64 b) m:=run_store _ W a _ m rfl
def rdB64 (a:Int) (d:Nat) (way:Int):Nat:=flt (rdF 53 (-1074) 971 a.natAbs d way) (decide (a < 0))
theorem rounded_any (v:Value) (x:Cx) (a b:Int) (d:Nat) (above below way:Int) (w:World) (h:IsNum w v x) (hx:Low x a b d) (sa:wl a.natAbs < 268435456) (sd:wl d < 268435456) (hway:way = if a < 0 then below else above) (hw:way = 0 ∨ way = 1 ∨ way = 2) :
  Calls Tryz.prog 157 #[v,.int .i64 above,.int .i64 below] w fun e w'=>e = .returned (.float .f64 (rdB64 a d way)) /\ Below w.heap.size w w':=by
 have HD:=hid (fun W (hb:Below w.heap.size w W)=>denominator_any _ _ W (h.below hb) a b d hx)
 obtain ⟨A1,n1,c1,p1,A1b,n1b,c1b,p1b,A1c,n1c,c1c,a',b',d',rfl,hl,hr,hi,hs,-,hq1,-,hra,-⟩:=h.parts
 obtain ⟨rfl,rfl,rfl⟩:=hx.uniq hl
 have hd:=hl.pos
 have HDb:=hid (fun W=>double_any W)
 have HR:=hid (fun W u (hb:Below w.heap.size w W) (hu:IsNat W u d)=>round_any (.slice A1 n1 c1) u a.natAbs d 53 (-1074) 971 way W Fm.double (hra.below hb) hu hd sa sd hw)
 have la:=rdF_lt (p:=a.natAbs) Fm.double hd way
 have HT:=hid (fun W=>toFloat_any (rdF 53 (-1074) 971 a.natAbs d way) p1 W la)
 have HV:=hid (show rdB64 a d way = flt (rdF 53 (-1074) 971 a.natAbs d way) p1 by rw [hq1]; rfl)
 have hwy:way = if p1 then below else above:=by rw [hway,hq1]; simp
 rw [HV.out]
 clear la hq1 hra hl hr hi hs h hx sa sd hw hd hway HV
 generalize rdF 53 (-1074) 971 a.natAbs d way = ma at *
 go_enter Tryz.func157,Tryz.ntmps157
 cases p1
 ·obtain rfl:way = above:=hwy
  go_upto_region 4 with fail
  obtain ⟨W1,hW1⟩:∃ W1:World,W1 = w.alloc (.cells #[.slice A1 n1 c1,.bool false,.slice A1b n1b c1b,.bool p1b,.slice A1c n1c c1c] 49):=⟨_,rfl⟩
  rw [<- hW1]
  have B:Below w.heap.size w W1:=by rw [hW1]; exact below_alloc _ _
  have X0:W1.heap[w.heap.size]? = some (.cells #[.slice A1 n1 c1,.bool false,.slice A1b n1b c1b,.bool p1b,.slice A1c n1c c1c] 49 (0,0)):=by rw [hW1]; exact heap_alloc_new w _
  have z0:w.heap.size < W1.heap.size:=by rw [hW1]; simp
  clear hW1
  refine region_lin [.val (kIs (fmtV 53 (-1074) 971)),.val (kIs (.pointer (some ⟨w.heap.size,0,none⟩))),.val (kIs (.pointer (some ⟨w.heap.size,0,none⟩))),.val (kIs (.slice A1 n1 c1)),.val (kIs (.agg #[.slice A1 n1 c1,.bool false,.slice A1b n1b c1b,.bool p1b,.slice A1c n1c c1c])),.val (kNat d),.val (kIs (.int .i64 way)),.val (kIs (.int .u64 (ma:Int))),.val (kIs (.pointer (some ⟨w.heap.size,0,none⟩))),.val (kIs (.pointer (some ⟨w.heap.size,1,none⟩))),.val (kIs (.bool false)),.val (kIs (.float .f64 (flt ma false))),.val (kIs (.float .f64 (flt ma false)))]
   kR kR kR kR kR ⟨Stab.b (stab_is _),Stab.b (stab_is _),Stab.b (stab_is _),Stab.b (stab_is _),Stab.b (stab_is _),stabB_nat _,Stab.b (stab_is _),Stab.b (stab_is _),Stab.b (stab_is _),Stab.b (stab_is _),Stab.b (stab_is _),Stab.b (stab_is _),Stab.b (stab_is _),trivial⟩ sP ⟨?_,?_,?_,?_,?_,?_,?_,?_,?_,?_,?_,?_,?_,trivial⟩ ?_
  ·intro ts W hb hB hp K hK; simp only [fillT,zA,Nat.reduceAdd,sA,sB,sC] at hK ⊢; have HK:=hid hK; clear hK hp; refine ⟨?_⟩; go_simp; refine (HDb.out _).mono ?_; rintro e W9 ⟨rfl,hb9⟩; exact HK.out _ _ rfl hb9
  ·exact obp
  ·intro ts W hb hB hp; have h1:ts 1 = _:=hp 1 kR; intro K hK; simp only [fillT,zA,Nat.reduceAdd,sA,sB,sC,h1] at hK ⊢; have HK:=hid hK; clear hK hp; refine ⟨?_⟩; go_simp; exact HK.out _ _ rfl rfB
  ·intro ts W hb hB hp; have h2:ts 2 = _:=hp 2 kR; intro K hK; simp only [fillT,zA,Nat.reduceAdd,sA,sB,sC,h2] at hK ⊢; have HK:=hid hK; clear hK hp; obtain ⟨f0,f1,f2,f3,f4,-,-,-,-,-⟩:=bx5 ((hb.block _ z0).trans X0); refine ⟨?_⟩; go_simp; exact HK.out _ _ rfl rfB
  ·intro ts W hb hB hp K hK; simp only [fillT,zA,Nat.reduceAdd,sA,sB,sC] at hK ⊢; have HK:=hid hK; clear hK hp; obtain ⟨f0,f1,f2,f3,f4,-,-,-,-,-⟩:=bx5 ((hb.block _ z0).trans X0); refine ⟨?_⟩; go_simp; exact HK.out _ _ rfl rfB
  ·intro ts W hb hB hp; have h4:ts 4 = _:=hp 4 kR; intro K hK; simp only [fillT,zA,Nat.reduceAdd,sA,sB,sC,h4] at hK ⊢; have HK:=hid hK; clear hK hp; refine ⟨?_⟩; go_simp; refine (HD.out W (bT B hb)).mono ?_; rintro e W9 ⟨r9,rfl,hr9,hb9⟩; exact HK.out _ _ hr9 hb9
  ·exact obp
  ·intro ts W hb hB hp; have h0:ts 0 = _:=hp 0 kR; have h3:ts 3 = _:=hp 3 kR; have h5:=hp 5 kR; have h6:ts 6 = _:=hp 6 kR; intro K hK; simp only [fillT,zA,Nat.reduceAdd,sA,sB,sC,h0,h3,h6] at hK ⊢; have HK:=hid hK; clear hK hp; refine ⟨?_⟩; go_simp; refine (HR.out _ _ (bT B hb) h5).mono ?_; rintro e W9 ⟨rfl,hb9⟩; exact HK.out _ _ rfl hb9
  ·exact obp
  ·intro ts W hb hB hp; have h8:ts 8 = _:=hp 8 kR; intro K hK; simp only [fillT,zA,Nat.reduceAdd,sA,sB,sC,h8] at hK ⊢; have HK:=hid hK; clear hK hp; refine ⟨?_⟩; go_simp; exact HK.out _ _ rfl rfB
  ·intro ts W hb hB hp; have h9:ts 9 = _:=hp 9 kR; intro K hK; simp only [fillT,zA,Nat.reduceAdd,sA,sB,sC,h9] at hK ⊢; have HK:=hid hK; clear hK hp; obtain ⟨f0,f1,f2,f3,f4,-,-,-,-,-⟩:=bx5 ((hb.block _ z0).trans X0); refine ⟨?_⟩; go_simp; exact HK.out _ _ rfl rfB
  ·intro ts W hb hB hp; have h7:ts 7 = _:=hp 7 kR; have h10:ts 10 = _:=hp 10 kR; intro K hK; simp only [fillT,zA,Nat.reduceAdd,sA,sB,sC,h7,h10] at hK ⊢; have HK:=hid hK; clear hK hp; refine ⟨?_⟩; go_simp; refine (HT.out _).mono ?_; rintro e W9 ⟨rfl,rfl⟩; exact HK.out _ _ rfl rfB
  ·intro ts W hb hB hp; have h11:ts 11 = _:=hp 11 kR; intro K hK; simp only [fillT,zA,Nat.reduceAdd,sA,sB,sC,h11] at hK ⊢; have HK:=hid hK; clear hK hp; refine ⟨?_⟩; go_simp; exact HK.out _ _ rfl rfB
  intro ts W2 hb2 hh hap
  have e12:=held_is (hh 12 sP) rfl
  simp only [fillT,zA,Nat.reduceAdd,sA,sB,sC,e12]
  clear hh hap e12
  generalize ts 0 = u0 at *
  generalize ts 1 = u1 at *
  generalize ts 2 = u2 at *
  generalize ts 3 = u3 at *
  generalize ts 4 = u4 at *
  generalize ts 5 = u5 at *
  generalize ts 6 = u6 at *
  generalize ts 7 = u7 at *
  generalize ts 8 = u8 at *
  generalize ts 9 = u9 at *
  generalize ts 10 = u10 at *
  generalize ts 11 = u11 at *
  go_wp2
  go_ret
  exact ⟨rfl,bT B hb2⟩
 ·obtain rfl:way = below:=hwy
  go_upto_region 4 with fail
  obtain ⟨W1,hW1⟩:∃ W1:World,W1 = w.alloc (.cells #[.slice A1 n1 c1,.bool true,.slice A1b n1b c1b,.bool p1b,.slice A1c n1c c1c] 49):=⟨_,rfl⟩
  rw [<- hW1]
  have B:Below w.heap.size w W1:=by rw [hW1]; exact below_alloc _ _
  have X0:W1.heap[w.heap.size]? = some (.cells #[.slice A1 n1 c1,.bool true,.slice A1b n1b c1b,.bool p1b,.slice A1c n1c c1c] 49 (0,0)):=by rw [hW1]; exact heap_alloc_new w _
  have z0:w.heap.size < W1.heap.size:=by rw [hW1]; simp
  clear hW1
  refine region_lin [.val (kIs (fmtV 53 (-1074) 971)),.val (kIs (.pointer (some ⟨w.heap.size,0,none⟩))),.val (kIs (.pointer (some ⟨w.heap.size,0,none⟩))),.val (kIs (.slice A1 n1 c1)),.val (kIs (.agg #[.slice A1 n1 c1,.bool true,.slice A1b n1b c1b,.bool p1b,.slice A1c n1c c1c])),.val (kNat d),.val (kIs (.int .i64 way)),.val (kIs (.int .u64 (ma:Int))),.val (kIs (.pointer (some ⟨w.heap.size,0,none⟩))),.val (kIs (.pointer (some ⟨w.heap.size,1,none⟩))),.val (kIs (.bool true)),.val (kIs (.float .f64 (flt ma true))),.val (kIs (.float .f64 (flt ma true)))]
   kR kR kR kR kR ⟨Stab.b (stab_is _),Stab.b (stab_is _),Stab.b (stab_is _),Stab.b (stab_is _),Stab.b (stab_is _),stabB_nat _,Stab.b (stab_is _),Stab.b (stab_is _),Stab.b (stab_is _),Stab.b (stab_is _),Stab.b (stab_is _),Stab.b (stab_is _),Stab.b (stab_is _),trivial⟩ sP ⟨?_,?_,?_,?_,?_,?_,?_,?_,?_,?_,?_,?_,?_,trivial⟩ ?_
  ·intro ts W hb hB hp K hK; simp only [fillT,zA,Nat.reduceAdd,sA,sB,sC] at hK ⊢; have HK:=hid hK; clear hK hp; refine ⟨?_⟩; go_simp; refine (HDb.out _).mono ?_; rintro e W9 ⟨rfl,hb9⟩; exact HK.out _ _ rfl hb9
  ·exact obp
  ·intro ts W hb hB hp; have h1:ts 1 = _:=hp 1 kR; intro K hK; simp only [fillT,zA,Nat.reduceAdd,sA,sB,sC,h1] at hK ⊢; have HK:=hid hK; clear hK hp; refine ⟨?_⟩; go_simp; exact HK.out _ _ rfl rfB
  ·intro ts W hb hB hp; have h2:ts 2 = _:=hp 2 kR; intro K hK; simp only [fillT,zA,Nat.reduceAdd,sA,sB,sC,h2] at hK ⊢; have HK:=hid hK; clear hK hp; obtain ⟨f0,f1,f2,f3,f4,-,-,-,-,-⟩:=bx5 ((hb.block _ z0).trans X0); refine ⟨?_⟩; go_simp; exact HK.out _ _ rfl rfB
  ·intro ts W hb hB hp K hK; simp only [fillT,zA,Nat.reduceAdd,sA,sB,sC] at hK ⊢; have HK:=hid hK; clear hK hp; obtain ⟨f0,f1,f2,f3,f4,-,-,-,-,-⟩:=bx5 ((hb.block _ z0).trans X0); refine ⟨?_⟩; go_simp; exact HK.out _ _ rfl rfB
  ·intro ts W hb hB hp; have h4:ts 4 = _:=hp 4 kR; intro K hK; simp only [fillT,zA,Nat.reduceAdd,sA,sB,sC,h4] at hK ⊢; have HK:=hid hK; clear hK hp; refine ⟨?_⟩; go_simp; refine (HD.out W (bT B hb)).mono ?_; rintro e W9 ⟨r9,rfl,hr9,hb9⟩; exact HK.out _ _ hr9 hb9
  ·exact obp
  ·intro ts W hb hB hp; have h0:ts 0 = _:=hp 0 kR; have h3:ts 3 = _:=hp 3 kR; have h5:=hp 5 kR; have h6:ts 6 = _:=hp 6 kR; intro K hK; simp only [fillT,zA,Nat.reduceAdd,sA,sB,sC,h0,h3,h6] at hK ⊢; have HK:=hid hK; clear hK hp; refine ⟨?_⟩; go_simp; refine (HR.out _ _ (bT B hb) h5).mono ?_; rintro e W9 ⟨rfl,hb9⟩; exact HK.out _ _ rfl hb9
  ·exact obp
  ·intro ts W hb hB hp; have h8:ts 8 = _:=hp 8 kR; intro K hK; simp only [fillT,zA,Nat.reduceAdd,sA,sB,sC,h8] at hK ⊢; have HK:=hid hK; clear hK hp; refine ⟨?_⟩; go_simp; exact HK.out _ _ rfl rfB
  ·intro ts W hb hB hp; have h9:ts 9 = _:=hp 9 kR; intro K hK; simp only [fillT,zA,Nat.reduceAdd,sA,sB,sC,h9] at hK ⊢; have HK:=hid hK; clear hK hp; obtain ⟨f0,f1,f2,f3,f4,-,-,-,-,-⟩:=bx5 ((hb.block _ z0).trans X0); refine ⟨?_⟩; go_simp; exact HK.out _ _ rfl rfB
  ·intro ts W hb hB hp; have h7:ts 7 = _:=hp 7 kR; have h10:ts 10 = _:=hp 10 kR; intro K hK; simp only [fillT,zA,Nat.reduceAdd,sA,sB,sC,h7,h10] at hK ⊢; have HK:=hid hK; clear hK hp; refine ⟨?_⟩; go_simp; refine (HT.out _).mono ?_; rintro e W9 ⟨rfl,rfl⟩; exact HK.out _ _ rfl rfB
  ·intro ts W hb hB hp; have h11:ts 11 = _:=hp 11 kR; intro K hK; simp only [fillT,zA,Nat.reduceAdd,sA,sB,sC,h11] at hK ⊢; have HK:=hid hK; clear hK hp; refine ⟨?_⟩; go_simp; exact HK.out _ _ rfl rfB
  intro ts W2 hb2 hh hap
  have e12:=held_is (hh 12 sP) rfl
  simp only [fillT,zA,Nat.reduceAdd,sA,sB,sC,e12]
  clear hh hap e12
  generalize ts 0 = u0 at *
  generalize ts 1 = u1 at *
  generalize ts 2 = u2 at *
  generalize ts 3 = u3 at *
  generalize ts 4 = u4 at *
  generalize ts 5 = u5 at *
  generalize ts 6 = u6 at *
  generalize ts 7 = u7 at *
  generalize ts 8 = u8 at *
  generalize ts 9 = u9 at *
  generalize ts 10 = u10 at *
  generalize ts 11 = u11 at *
  go_wp2
  go_ret
  exact ⟨rfl,bT B hb2⟩
theorem belowN_any (v:Value) (x:Cx) (a b:Int) (d:Nat) (w:World) (h:IsNum w v x) (hx:Low x a b d) (sa:wl a.natAbs < 268435456) (sd:wl d < 268435456) :
  Calls Tryz.prog 114 #[v] w fun e w'=>e = .returned (.float .f64 (rdB64 a d (if a < 0 then 1 else 0))) /\ Below w.heap.size w w':=by
 have H:=hid (fun W (hb:Below w.heap.size w W)=>rounded_any v x a b d 0 1 (if a < 0 then 1 else 0) W (h.below hb) hx sa sd rfl (by split <;> omega))
 obtain ⟨A1,n1,c1,p1,A1b,n1b,c1b,p1b,A1c,n1c,c1c,a',b',d',rfl,-⟩:=h.parts
 clear h hx sa sd
 generalize rdB64 a d (if a < 0 then 1 else 0) = r at *
 go_enter Tryz.func114,Tryz.ntmps114
 go_wp2_with fail
 refine (H.out _ (below_alloc _ _)).mono ?_
 rintro e W2 ⟨rfl,hb2⟩
 go_wp2
 go_ret
 exact ⟨rfl,bT (below_alloc _ _) hb2⟩
theorem aboveN_any (v:Value) (x:Cx) (a b:Int) (d:Nat) (w:World) (h:IsNum w v x) (hx:Low x a b d) (sa:wl a.natAbs < 268435456) (sd:wl d < 268435456) :
  Calls Tryz.prog 115 #[v] w fun e w'=>e = .returned (.float .f64 (rdB64 a d (if a < 0 then 0 else 1))) /\ Below w.heap.size w w':=by
 have H:=hid (fun W (hb:Below w.heap.size w W)=>rounded_any v x a b d 1 0 (if a < 0 then 0 else 1) W (h.below hb) hx sa sd rfl (by split <;> omega))
 obtain ⟨A1,n1,c1,p1,A1b,n1b,c1b,p1b,A1c,n1c,c1c,a',b',d',rfl,-⟩:=h.parts
 clear h hx sa sd
 generalize rdB64 a d (if a < 0 then 0 else 1) = r at *
 go_enter Tryz.func115,Tryz.ntmps115
 go_wp2_with fail
 refine (H.out _ (below_alloc _ _)).mono ?_
 rintro e W2 ⟨rfl,hb2⟩
 go_wp2
 go_ret
 exact ⟨rfl,bT (below_alloc _ _) hb2⟩
theorem around_any (v:Value) (x:Cx) (a b:Int) (d lo hi:Nat) (w:World) (h:IsNum w v x) (hx:Low x a b d) (sa:wl a.natAbs < 268435456) (sd:wl d < 268435456) (hlo:rdB64 a d (if a < 0 then 1 else 0) = lo) (hhi:rdB64 a d (if a < 0 then 0 else 1) = hi) :
  Calls Tryz.prog 61 #[v] w fun e w'=>e = .returned (.agg #[.float .f64 lo,.float .f64 hi]) /\ Below w.heap.size w w':=by
 subst hlo
 subst hhi
 have HB:=hid (fun W (hb:Below w.heap.size w W)=>belowN_any v x a b d W (h.below hb) hx sa sd)
 have HA:=hid (fun W (hb:Below w.heap.size w W)=>aboveN_any v x a b d W (h.below hb) hx sa sd)
 obtain ⟨A1,n1,c1,p1,A1b,n1b,c1b,p1b,A1c,n1c,c1c,a',b',d',rfl,-⟩:=h.parts
 clear h hx sa sd
 generalize rdB64 a d (if a < 0 then 1 else 0) = lo at *
 generalize rdB64 a d (if a < 0 then 0 else 1) = hi at *
 go_enter Tryz.func61,Tryz.ntmps61
 go_upto_region 1 with fail
 obtain ⟨W1,hW1⟩:∃ W1:World,W1 = (w.alloc (.cells #[.slice A1 n1 c1,.bool p1,.slice A1b n1b c1b,.bool p1b,.slice A1c n1c c1c] 49)).alloc (.cells #[.float .f64 0,.float .f64 0] 28):=⟨_,rfl⟩
 rw [<- hW1]
 have B:Below w.heap.size w W1:=by rw [hW1]; exact bT (below_alloc _ _) (below_alloc _ _)
 have X0:W1.heap[w.heap.size]? = some (.cells #[.slice A1 n1 c1,.bool p1,.slice A1b n1b c1b,.bool p1b,.slice A1c n1c c1c] 49 (0,0)):=by rw [hW1]; exact (heap_alloc_old _ _ sP).trans (heap_alloc_new w _)
 have z0:w.heap.size < W1.heap.size:=by rw [hW1]; simp <;> omega
 have X1:W1.heap[w.heap.size + 1]? = some (.cells #[.float .f64 0,.float .f64 0] 28 (0,0)):=by rw [hW1]; exact alloc_at sP
 have z1:w.heap.size + 1 < W1.heap.size:=by rw [hW1]; simp
 clear hW1
 refine region_last [.val (kIs (.agg #[.slice A1 n1 c1,.bool p1,.slice A1b n1b c1b,.bool p1b,.slice A1c n1c c1c])),.val (kIs (.float .f64 lo)),.val (kIs (.agg #[.slice A1 n1 c1,.bool p1,.slice A1b n1b c1b,.bool p1b,.slice A1c n1c c1c])),.val (kIs (.float .f64 hi)),.val (kIs (.agg #[.float .f64 lo,.float .f64 hi]))]
  kR kR kR kR kR ⟨Stab.b (stab_is _),Stab.b (stab_is _),Stab.b (stab_is _),Stab.b (stab_is _),Stab.b (stab_is _),trivial⟩ sP (ol:=_) rfl kR ⟨?_,?_,?_,?_,?_,trivial⟩ ?_
 ·intro ts W hb hB hp K hK; simp only [fillT,zA,Nat.reduceAdd,sA,sB,sC] at hK ⊢; have HK:=hid hK; clear hK hp; obtain ⟨f0,f1,f2,f3,f4,-,-,-,-,-⟩:=bx5 ((hb.block _ z0).trans X0); refine ⟨?_⟩; go_simp; exact HK.out _ _ rfl rfB
 ·intro ts W hb hB hp; have h0:ts 0 = _:=hp 0 kR; intro K hK; simp only [fillT,zA,Nat.reduceAdd,sA,sB,sC,h0] at hK ⊢; have HK:=hid hK; clear hK hp; refine ⟨?_⟩; go_simp; refine (HB.out _ (bT B hb)).mono ?_; rintro e W9 ⟨rfl,hb9⟩; exact HK.out _ _ rfl hb9
 ·intro ts W hb hB hp K hK; simp only [fillT,zA,Nat.reduceAdd,sA,sB,sC] at hK ⊢; have HK:=hid hK; clear hK hp; obtain ⟨f0,f1,f2,f3,f4,-,-,-,-,-⟩:=bx5 ((hb.block _ z0).trans X0); refine ⟨?_⟩; go_simp; exact HK.out _ _ rfl rfB
 ·intro ts W hb hB hp; have h2:ts 2 = _:=hp 2 kR; intro K hK; simp only [fillT,zA,Nat.reduceAdd,sA,sB,sC,h2] at hK ⊢; have HK:=hid hK; clear hK hp; refine ⟨?_⟩; go_simp; refine (HA.out _ (bT B hb)).mono ?_; rintro e W9 ⟨rfl,hb9⟩; exact HK.out _ _ rfl hb9
 ·intro ts W hb hB hp; have h1:ts 1 = _:=hp 1 kR; have h3:ts 3 = _:=hp 3 kR; intro K hK; simp only [fillT,zA,Nat.reduceAdd,sA,sB,sC,h1,h3] at hK ⊢; have HK:=hid hK; clear hK hp; refine ⟨?_⟩; go_simp; exact HK.out _ _ rfl rfB
 intro ts W2 hb2 hh hap K hK
 have e4:=held_is (hh 4 sP) rfl
 have HK:=hid hK
 clear hK
 simp only [fillT,zA,Nat.reduceAdd,sA,sB,sC,e4]
 clear hh hap e4
 generalize ts 0 = u0 at *
 generalize ts 1 = u1 at *
 generalize ts 2 = u2 at *
 generalize ts 3 = u3 at *
 replace X1:=(hb2.block _ z1).trans X1
 replace B:=bT B hb2
 refine ⟨?_⟩
 refine wp_store_row _ _ _ rfl (w.heap.size + 1) _ rfl rfl _ _ X1 kR rfl (by simp [Value.oneCell']) (HK.out _ _ ?_)
 have hput:=putAt_setRow (cs:=#[.float .f64 lo,.float .f64 hi]) X1
 replace B:=hput.below B oM
 clear HK X1 X0
 generalize W2.setRow (w.heap.size + 1) #[.float .f64 lo,.float .f64 hi] = W3 at *
 have X1:=hput.here
 clear hput
 obtain ⟨f0,f1,y0,y1⟩:=bx2 X1
 go_wp2
 refine bodyPost_ret (v:=.agg #[.float .f64 lo,.float .f64 hi]) (by simp [results,Tryz.results61,go_sem,f0,f1]) rfl ?_
 exact ⟨rfl,B⟩
theorem div_ne (v u:Value) (x y:Cx) (w:World) (h:IsNum w v x) (h':IsNum w u y) (m n:Nat) (hx:Sz x m) (hy:Sz y n) (hm:m + 4 * n + 4 < 549755813888) (hT:Tab w) (h0:y ≠ .zero) :
  Calls Tryz.prog 209 #[v,u] w (RetNumE w (x.div y) 0):=by
 by_cases h1:y.im = 0
 ·exact divN_r v u x y w h h' m n hx hy hm hT h0 h1
 ·exact divN_c v u x y w h h' m n hx hy hm hT h0 h1
theorem inverse_fin (p q lo hi:Nat) (a b:Int) (d:Nat) (w:World) (hT:Tab w) (hT6:Tab64 w) (hp:p < 18446744073709551616) (hq:q < 18446744073709551616) (fp:fx p ≠ 2047) (fq:fx q ≠ 2047)
  (I1:∀ W,Calls Tryz.prog 110 #[.float .f64 p,.int .i64 0] W fun e w'=>e = .returned (.bool false) /\ W = w') (I2:∀ W,Calls Tryz.prog 110 #[.float .f64 q,.int .i64 0] W fun e w'=>e = .returned (.bool false) /\ W = w')
  (h0:cf p q ≠ .zero) (hx:Low ((Cx.int 1).div (cf p q)) a b d) (sa:wl a.natAbs < 268435456) (sd:wl d < 268435456) (hlo:rdB64 a d (if a < 0 then 1 else 0) = lo) (hhi:rdB64 a d (if a < 0 then 0 else 1) = hi) :
  Calls Tryz.prog 186 #[.float .f64 p,.float .f64 q] w fun e w'=>e = .returned (.agg #[.float .f64 lo,.float .f64 hi]) /\ Below w.heap.size w w':=by
 have hsf:=store_float
 have I1:=hid I1
 have I2:=hid I2
 have HC:=hid (fun W (hb:Below w.heap.size w W)=>complex_good p q W hp hq (hT6.below hb) fp fq)
 have HI:=hid (fun W=>int_any 1 W oM oM)
 have HD:=hid (fun W v u (hb:Below w.heap.size w W) (h:IsNum W v (.int 1)) (h':IsNum W u (cf p q))=>div_ne v u (.int 1) (cf p q) W h h' 1 67 (Sz.int (by show wl 1 <= 1; rw [wl_one]; omega) oM) (cf_sz p q) oM (hT.below hb) h0)
 have HA:=hid (fun W v (h:IsNum W v ((Cx.int 1).div (cf p q)))=>around_any v _ a b d lo hi W h hx sa sd hlo hhi)
 clear hT hT6 hp hq fp fq h0 hx sa sd hlo hhi
 generalize (Cx.int 1).div (cf p q) = y at *
 generalize cf p q = x at *
 go_enter Tryz.func186,Tryz.ntmps186
 go_wp2_with fail
 refine (I1.out _).mono ?_
 rintro e w9 ⟨rfl,rfl⟩
 go_wp2_with fail
 refine (I2.out _).mono ?_
 rintro e w9 ⟨rfl,rfl⟩
 go_wp2_with fail
 refine (HC.out _ (below_alloc _ _)).mono ?_
 rintro e W2 ⟨v,rfl,hn2,hb2⟩
 obtain ⟨A1,n1,c1,p1,A1b,n1b,c1b,p1b,A1c,n1c,c1c,qa,qb,qd,rfl,-⟩:=hn2.parts
 have X0:=(hb2.block w.heap.size sP).trans (heap_alloc_new w _)
 have z0:w.heap.size < W2.heap.size:=lL sP hb2.size
 have B:=bT (below_alloc w _) hb2
 have HN2:=hid hn2
 clear hb2 hn2
 go_upto_region 4 with fail
 obtain ⟨W3,hW3⟩:∃ W,W = W2.alloc (.cells #[.slice A1 n1 c1,.bool p1,.slice A1b n1b c1b,.bool p1b,.slice A1c n1c c1c] 49):=⟨_,rfl⟩
 rw [<- hW3]
 have X1:W3.heap[W2.heap.size]? = some (.cells #[.slice A1 n1 c1,.bool p1,.slice A1b n1b c1b,.bool p1b,.slice A1c n1c c1c] 49 (0,0)):=by rw [hW3]; exact heap_alloc_new W2 _
 have z1:W2.heap.size < W3.heap.size:=by rw [hW3]; simp
 replace X0:=(heap_alloc_old W2 (.cells #[.slice A1 n1 c1,.bool p1,.slice A1b n1b c1b,.bool p1b,.slice A1c n1c c1c] 49) z0).trans X0
 rw [<- hW3] at X0
 replace z0:=Nat.lt_trans z0 z1
 have N3:IsNum W3 (.agg #[.slice A1 n1 c1,.bool p1,.slice A1b n1b c1b,.bool p1b,.slice A1c n1c c1c]) x:=by rw [hW3]; exact HN2.out.below (below_alloc _ _)
 replace B:Below w.heap.size w W3:=by rw [hW3]; exact bT B (below_alloc _ _)
 clear hW3 HN2
 refine region_lin [.val (kNum (.int 1)),.val (kIs (.agg #[.slice A1 n1 c1,.bool p1,.slice A1b n1b c1b,.bool p1b,.slice A1c n1c c1c])),.val (kTup y 0),.val (kTup y 0),.val (kNum y),.val (kIs (.int .i64 0)),.box 49 zNum,.put 6 4,.val (kIs (.int .i64 0))]
  kR kR kR kR kR ⟨stab_num _,stab_is _,stab_tup _ _,stab_tup _ _,stab_num _,stab_is _,stab_is _,trivial⟩ sP ⟨?_,?_,?_,?_,?_,?_,alloc_num,store_num _,?_,trivial⟩ ?_
 ·intro ts W hb hB hp K hK; simp only [fillT,zA,Nat.reduceAdd,sA,sB,sC] at hK ⊢; have HK:=hid hK; clear hK hp; refine ⟨?_⟩; go_simp; refine (HI.out _).mono ?_; rintro e W9 ⟨r9,rfl,hr9,hb9⟩; exact HK.out _ _ hr9 hb9
 ·intro ts W hb hB hp K hK; simp only [fillT,zA,Nat.reduceAdd,sA,sB,sC] at hK ⊢; have HK:=hid hK; clear hK hp; obtain ⟨f0,f1,f2,f3,f4,-,-,-,-,-⟩:=bx5 ((hb.block _ z1).trans X1); refine ⟨?_⟩; go_simp; exact HK.out _ _ rfl rfB
 ·intro ts W hb hB hp; have h0:=hp 0 kR; have h1:ts 1 = _:=hp 1 kR; intro K hK; simp only [fillT,zA,Nat.reduceAdd,sA,sB,sC,h1] at hK ⊢; have HK:=hid hK; clear hK hp; refine ⟨?_⟩; go_simp; refine (HD.out W _ _ (bT B hb) h0 (N3.below hb)).mono ?_; rintro e W9 ⟨r9,rfl,hr9,hb9⟩; exact HK.out _ _ ⟨r9,rfl,hr9⟩ hb9
 ·intro ts W hb hB hp; have h2:=hp 2 kR; intro K hK; simp only [fillT,zA,Nat.reduceAdd,sA,sB,sC] at hK ⊢; have HK:=hid hK; clear hK hp; refine ⟨?_⟩; go_simp; exact HK.out _ _ h2 rfB
 ·intro ts W hb hB hp; have h3:=hp 3 kR; intro K hK; obtain ⟨u9,e9,i9⟩:=h3; simp only [fillT,zA,Nat.reduceAdd,sA,sB,sC,e9] at hK ⊢; have HK:=hid hK; clear hK hp; refine ⟨?_⟩; go_simp; exact HK.out _ _ i9 rfB
 ·intro ts W hb hB hp; have h3:=hp 3 kR; intro K hK; obtain ⟨u9,e9,i9⟩:=h3; simp only [fillT,zA,Nat.reduceAdd,sA,sB,sC,e9] at hK ⊢; have HK:=hid hK; clear hK hp; refine ⟨?_⟩; go_simp; exact HK.out _ _ rfl rfB
 ·intro ts W hb hB hp; have h5:ts 5 = _:=hp 5 kR; intro K hK; simp only [fillT,zA,Nat.reduceAdd,sA,sB,sC,h5] at hK ⊢; have HK:=hid hK; clear hK hp; refine ⟨?_⟩; go_simp; exact HK.out _ _ rfl rfB
 intro ts W5 hb5 hh hap
 have e8:=held_is (hh 8 sP) rfl
 obtain ⟨g20,A20,n20,c20,p20,A20b,n20b,c20b,p20b,A20c,n20c,c20c,e6,lo20,z20,X20,N20⟩:=held_box (x:=y) (hh 6 sP) rfl (hh 7 sP) rfl (hh 4 sP) rfl
 simp only [fillT,zA,Nat.reduceAdd,sA,sB,sC,e8,e6]
 clear hh hap e8 e6
 generalize ts 0 = u0_W5 at *
 generalize ts 1 = u1_W5 at *
 generalize ts 2 = u2_W5 at *
 generalize ts 3 = u3_W5 at *
 generalize ts 4 = u4_W5 at *
 generalize ts 5 = u5_W5 at *
 clear ts
 have hwg:w.heap.size < g20:=oM
 replace X0:=(hb5.block _ z0).trans X0
 replace z0:=lL z0 hb5.size
 replace B:=bT B hb5
 clear hb5
 obtain ⟨d0,d1,d2,d3,d4,-,-,-,-,-⟩:=bx5 X20
 have HN:=hid N20
 clear N20 X1 z1 N3
 go_wp2_with fail
 refine (HA.out _ _ HN.out).mono ?_
 rintro e W6 ⟨rfl,hb6⟩
 replace X0:=(hb6.block _ z0).trans X0
 replace B:=bT B hb6
 clear hb6 d0 d1 d2 d3 d4 X20
 obtain ⟨f0,f1,y0,y1⟩:=bx2 X0
 go_wp2
 refine bodyPost_ret (v:=.agg #[.float .f64 lo,.float .f64 hi]) (by simp [results,Tryz.results186,go_sem,f0,f1]) rfl ?_
 exact ⟨rfl,Below.setCell (p:=⟨w.heap.size,1,none⟩) (Below.setCell (p:=⟨w.heap.size,0,none⟩) B lR _) lR _⟩
end Go.Proofs.YtjodlmanheeajaaGreatDoor
