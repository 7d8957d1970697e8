import Derived.Test.YtjodlmanheeajaaGreatDoorR42
import Derived.Test.YtjodlmanheeajaaGreatDoorR43
import Derived.Test.YtjodlmanheeajaaGreatDoorR02
set_option linter.unusedVariables false
set_option linter.unusedSimpArgs false
set_option maxRecDepth 100000
set_option maxHeartbeats 8000000
namespace Go.Proofs.YtjodlmanheeajaaGreatDoor
open Go.RowKit
def bxOf (a b c d:Nat):Bx:=⟨spOf a b,spOf c d⟩
def bxB (a b c d:Nat):Bool:=spB a b && spB c d
theorem bx_fine {a b c d:Nat} (ha:a < 18446744073709551616) (hb:b < 18446744073709551616) (hc:c < 18446744073709551616) (hd:d < 18446744073709551616):(bxOf a b c d).Ok:=⟨sp_fine ha hb,sp_fine hc hd⟩
theorem both_raw (a b c d p q r s:Nat) (u v:Bool) (HX:Hid (∀ W,Calls Tryz.prog 11 #[.agg #[.int .u64 (a:Int),.int .u64 (b:Int)]] W fun e w'=>e = .returned (.tuple #[.agg #[.float .f64 p,.float .f64 q],.agg #[.float .f64 p,.float .f64 q],.bool u]) /\ Below W.heap.size W w')) (HY:Hid (∀ W,Calls Tryz.prog 11 #[.agg #[.int .u64 (c:Int),.int .u64 (d:Int)]] W fun e w'=>e = .returned (.tuple #[.agg #[.float .f64 r,.float .f64 s],.agg #[.float .f64 r,.float .f64 s],.bool v]) /\ Below W.heap.size W w')) (w:World):Calls Tryz.prog 23 #[.agg #[.int .u64 (a:Int),.int .u64 (b:Int),.int .u64 (c:Int),.int .u64 (d:Int)]] w fun e w'=>e = .returned (.tuple #[.agg #[.float .f64 p,.float .f64 q,.float .f64 r,.float .f64 s],.agg #[.float .f64 p,.float .f64 q,.float .f64 r,.float .f64 s],.bool (u && v)]) /\ Below w.heap.size w w':=by
 have hfb:=floatbits_run
 have hsf:=store_float
 go_enter Tryz.func23,Tryz.ntmps23
 go_upto_region 1 with fail
 obtain ⟨W1,hW1⟩:∃ W:World,W = ((w.alloc (.cells #[.int .u64 (a:Int),.int .u64 (b:Int),.int .u64 (c:Int),.int .u64 (d:Int)] 63)).alloc (.cells #[.float .f64 0,.float .f64 0,.float .f64 0,.float .f64 0] 65)).alloc (.cells #[.float .f64 0,.float .f64 0,.float .f64 0,.float .f64 0] 67):=⟨_,rfl⟩
 rw [<- hW1]
 have X0:W1.heap[w.heap.size]? = some (.cells #[.int .u64 (a:Int),.int .u64 (b:Int),.int .u64 (c:Int),.int .u64 (d:Int)] 63 (0,0)):=by rw [hW1]; exact ((heap_alloc_old _ _ (by first | omega | (simp <;> omega))).trans ((heap_alloc_old _ _ (by first | omega | (simp <;> omega))).trans (alloc_at sP)))
 have X1:W1.heap[w.heap.size + 1]? = some (.cells #[.float .f64 0,.float .f64 0,.float .f64 0,.float .f64 0] 65 (0,0)):=by rw [hW1]; exact ((heap_alloc_old _ _ (by first | omega | (simp <;> omega))).trans (alloc_at sP))
 have X2:W1.heap[w.heap.size + 2]? = some (.cells #[.float .f64 0,.float .f64 0,.float .f64 0,.float .f64 0] 67 (0,0)):=by rw [hW1]; exact (alloc_at sP)
 have z0:w.heap.size < W1.heap.size:=by rw [hW1]; simp <;> omega
 have z1:w.heap.size + 1 < W1.heap.size:=by rw [hW1]; simp <;> omega
 have z2:w.heap.size + 2 < W1.heap.size:=by rw [hW1]; simp <;> omega
 have B:Below w.heap.size w W1:=by rw [hW1]; exact (bT (bT (bT (Below.refl w.heap.size w) (below_alloc _ _)) (below_alloc _ _)) (below_alloc _ _))
 clear hW1
 obtain ⟨f0_0,f0_1,f0_2,f0_3,y0_0,y0_1,y0_2,y0_3⟩:=bx4 X0
 obtain ⟨f1_0,f1_1,f1_2,f1_3,y1_0,y1_1,y1_2,y1_3⟩:=bx4 X1
 obtain ⟨f2_0,f2_1,f2_2,f2_3,y2_0,y2_1,y2_2,y2_3⟩:=bx4 X2
 go_wp2_with fail
 refine (HX.out _).mono ?_
 rintro e W2 ⟨rfl,hb2⟩
 replace X0:=(hb2.block _ z0).trans X0
 replace z0:=lL z0 hb2.size
 replace X1:=(hb2.block _ z1).trans X1
 replace z1:=lL z1 hb2.size
 replace X2:=(hb2.block _ z2).trans X2
 replace z2:=lL z2 hb2.size
 replace B:=bT B hb2
 clear hb2
 clear f0_0 f0_1 f0_2 f0_3 y0_0 y0_1 y0_2 y0_3 f1_0 f1_1 f1_2 f1_3 y1_0 y1_1 y1_2 y1_3 f2_0 f2_1 f2_2 f2_3 y2_0 y2_1 y2_2 y2_3
 obtain ⟨f0_0,f0_1,f0_2,f0_3,y0_0,y0_1,y0_2,y0_3⟩:=bx4 X0
 obtain ⟨f1_0,f1_1,f1_2,f1_3,y1_0,y1_1,y1_2,y1_3⟩:=bx4 X1
 obtain ⟨f2_0,f2_1,f2_2,f2_3,y2_0,y2_1,y2_2,y2_3⟩:=bx4 X2
 go_upto_region 2 with fail
 obtain ⟨W3,hW3⟩:∃ W:World,W = (W2.alloc (.cells #[.float .f64 p,.float .f64 q] 28)).alloc (.cells #[.float .f64 p,.float .f64 q] 30):=⟨_,rfl⟩
 rw [<- hW3]
 replace X0:W3.heap[w.heap.size]? = some (.cells #[.int .u64 (a:Int),.int .u64 (b:Int),.int .u64 (c:Int),.int .u64 (d:Int)] 63 (0,0)):=by rw [hW3]; exact ((heap_alloc_old _ _ (by first | omega | (simp <;> omega))).trans ((heap_alloc_old _ _ (by first | omega | (simp <;> omega))).trans X0))
 replace X1:W3.heap[w.heap.size + 1]? = some (.cells #[.float .f64 0,.float .f64 0,.float .f64 0,.float .f64 0] 65 (0,0)):=by rw [hW3]; exact ((heap_alloc_old _ _ (by first | omega | (simp <;> omega))).trans ((heap_alloc_old _ _ (by first | omega | (simp <;> omega))).trans X1))
 replace X2:W3.heap[w.heap.size + 2]? = some (.cells #[.float .f64 0,.float .f64 0,.float .f64 0,.float .f64 0] 67 (0,0)):=by rw [hW3]; exact ((heap_alloc_old _ _ (by first | omega | (simp <;> omega))).trans ((heap_alloc_old _ _ (by first | omega | (simp <;> omega))).trans X2))
 have X3:W3.heap[W2.heap.size]? = some (.cells #[.float .f64 p,.float .f64 q] 28 (0,0)):=by rw [hW3]; exact ((heap_alloc_old _ _ (by first | omega | (simp <;> omega))).trans (alloc_at sP))
 have X4:W3.heap[W2.heap.size + 1]? = some (.cells #[.float .f64 p,.float .f64 q] 30 (0,0)):=by rw [hW3]; exact (alloc_at sP)
 have q0_3:w.heap.size < W2.heap.size:=oM
 have q1_3:w.heap.size + 1 < W2.heap.size:=oM
 have q2_3:w.heap.size + 2 < W2.heap.size:=oM
 have q0_4:w.heap.size < W2.heap.size + 1:=oM
 have q1_4:w.heap.size + 1 < W2.heap.size + 1:=oM
 have q2_4:w.heap.size + 2 < W2.heap.size + 1:=oM
 replace z0:w.heap.size < W3.heap.size:=by rw [hW3]; simp <;> omega
 replace z1:w.heap.size + 1 < W3.heap.size:=by rw [hW3]; simp <;> omega
 replace z2:w.heap.size + 2 < W3.heap.size:=by rw [hW3]; simp <;> omega
 have z3:W2.heap.size < W3.heap.size:=by rw [hW3]; simp <;> omega
 have z4:W2.heap.size + 1 < W3.heap.size:=by rw [hW3]; simp <;> omega
 replace B:Below w.heap.size w W3:=by rw [hW3]; exact (bT (bT B (below_alloc _ _)) (below_alloc _ _))
 clear hW3
 clear f0_0 f0_1 f0_2 f0_3 y0_0 y0_1 y0_2 y0_3 f1_0 f1_1 f1_2 f1_3 y1_0 y1_1 y1_2 y1_3 f2_0 f2_1 f2_2 f2_3 y2_0 y2_1 y2_2 y2_3
 obtain ⟨f0_0,f0_1,f0_2,f0_3,y0_0,y0_1,y0_2,y0_3⟩:=bx4 X0
 obtain ⟨f1_0,f1_1,f1_2,f1_3,y1_0,y1_1,y1_2,y1_3⟩:=bx4 X1
 obtain ⟨f2_0,f2_1,f2_2,f2_3,y2_0,y2_1,y2_2,y2_3⟩:=bx4 X2
 obtain ⟨f3_0,f3_1,y3_0,y3_1⟩:=bx2 X3
 obtain ⟨f4_0,f4_1,y4_0,y4_1⟩:=bx2 X4
 go_wp2_with fail
 refine (HY.out _).mono ?_
 rintro e W4 ⟨rfl,hb4⟩
 replace X0:=(hb4.block _ z0).trans X0
 replace z0:=lL z0 hb4.size
 replace X1:=(hb4.block _ z1).trans X1
 replace z1:=lL z1 hb4.size
 replace X2:=(hb4.block _ z2).trans X2
 replace z2:=lL z2 hb4.size
 replace X3:=(hb4.block _ z3).trans X3
 replace z3:=lL z3 hb4.size
 replace X4:=(hb4.block _ z4).trans X4
 replace z4:=lL z4 hb4.size
 replace B:=bT B hb4
 clear hb4
 clear f0_0 f0_1 f0_2 f0_3 y0_0 y0_1 y0_2 y0_3 f1_0 f1_1 f1_2 f1_3 y1_0 y1_1 y1_2 y1_3 f2_0 f2_1 f2_2 f2_3 y2_0 y2_1 y2_2 y2_3 f3_0 f3_1 y3_0 y3_1 f4_0 f4_1 y4_0 y4_1
 obtain ⟨f0_0,f0_1,f0_2,f0_3,y0_0,y0_1,y0_2,y0_3⟩:=bx4 X0
 obtain ⟨f1_0,f1_1,f1_2,f1_3,y1_0,y1_1,y1_2,y1_3⟩:=bx4 X1
 obtain ⟨f2_0,f2_1,f2_2,f2_3,y2_0,y2_1,y2_2,y2_3⟩:=bx4 X2
 obtain ⟨f3_0,f3_1,y3_0,y3_1⟩:=bx2 X3
 obtain ⟨f4_0,f4_1,y4_0,y4_1⟩:=bx2 X4
 cases u
 ·go_upto_region 3 with fail
  obtain ⟨W5,hW5⟩:∃ W:World,W = (W4.alloc (.cells #[.float .f64 r,.float .f64 s] 28)).alloc (.cells #[.float .f64 r,.float .f64 s] 30):=⟨_,rfl⟩
  rw [<- hW5]
  replace X0:W5.heap[w.heap.size]? = some (.cells #[.int .u64 (a:Int),.int .u64 (b:Int),.int .u64 (c:Int),.int .u64 (d:Int)] 63 (0,0)):=by rw [hW5]; exact ((heap_alloc_old _ _ (by first | omega | (simp <;> omega))).trans ((heap_alloc_old _ _ (by first | omega | (simp <;> omega))).trans X0))
  replace X1:W5.heap[w.heap.size + 1]? = some (.cells #[.float .f64 0,.float .f64 0,.float .f64 0,.float .f64 0] 65 (0,0)):=by rw [hW5]; exact ((heap_alloc_old _ _ (by first | omega | (simp <;> omega))).trans ((heap_alloc_old _ _ (by first | omega | (simp <;> omega))).trans X1))
  replace X2:W5.heap[w.heap.size + 2]? = some (.cells #[.float .f64 0,.float .f64 0,.float .f64 0,.float .f64 0] 67 (0,0)):=by rw [hW5]; exact ((heap_alloc_old _ _ (by first | omega | (simp <;> omega))).trans ((heap_alloc_old _ _ (by first | omega | (simp <;> omega))).trans X2))
  replace X3:W5.heap[W2.heap.size]? = some (.cells #[.float .f64 p,.float .f64 q] 28 (0,0)):=by rw [hW5]; exact ((heap_alloc_old _ _ (by first | omega | (simp <;> omega))).trans ((heap_alloc_old _ _ (by first | omega | (simp <;> omega))).trans X3))
  replace X4:W5.heap[W2.heap.size + 1]? = some (.cells #[.float .f64 p,.float .f64 q] 30 (0,0)):=by rw [hW5]; exact ((heap_alloc_old _ _ (by first | omega | (simp <;> omega))).trans ((heap_alloc_old _ _ (by first | omega | (simp <;> omega))).trans X4))
  have X5:W5.heap[W4.heap.size]? = some (.cells #[.float .f64 r,.float .f64 s] 28 (0,0)):=by rw [hW5]; exact ((heap_alloc_old _ _ (by first | omega | (simp <;> omega))).trans (alloc_at sP))
  have X6:W5.heap[W4.heap.size + 1]? = some (.cells #[.float .f64 r,.float .f64 s] 30 (0,0)):=by rw [hW5]; exact (alloc_at sP)
  have q0_5:w.heap.size < W4.heap.size:=oM
  have q1_5:w.heap.size + 1 < W4.heap.size:=oM
  have q2_5:w.heap.size + 2 < W4.heap.size:=oM
  have q3_5:W2.heap.size < W4.heap.size:=oM
  have q4_5:W2.heap.size + 1 < W4.heap.size:=oM
  have q0_6:w.heap.size < W4.heap.size + 1:=oM
  have q1_6:w.heap.size + 1 < W4.heap.size + 1:=oM
  have q2_6:w.heap.size + 2 < W4.heap.size + 1:=oM
  have q3_6:W2.heap.size < W4.heap.size + 1:=oM
  have q4_6:W2.heap.size + 1 < W4.heap.size + 1:=oM
  replace z0:w.heap.size < W5.heap.size:=by rw [hW5]; simp <;> omega
  replace z1:w.heap.size + 1 < W5.heap.size:=by rw [hW5]; simp <;> omega
  replace z2:w.heap.size + 2 < W5.heap.size:=by rw [hW5]; simp <;> omega
  replace z3:W2.heap.size < W5.heap.size:=by rw [hW5]; simp <;> omega
  replace z4:W2.heap.size + 1 < W5.heap.size:=by rw [hW5]; simp <;> omega
  have z5:W4.heap.size < W5.heap.size:=by rw [hW5]; simp <;> omega
  have z6:W4.heap.size + 1 < W5.heap.size:=by rw [hW5]; simp <;> omega
  replace B:Below w.heap.size w W5:=by rw [hW5]; exact (bT (bT B (below_alloc _ _)) (below_alloc _ _))
  clear hW5
  clear f0_0 f0_1 f0_2 f0_3 y0_0 y0_1 y0_2 y0_3 f1_0 f1_1 f1_2 f1_3 y1_0 y1_1 y1_2 y1_3 f2_0 f2_1 f2_2 f2_3 y2_0 y2_1 y2_2 y2_3 f3_0 f3_1 y3_0 y3_1 f4_0 f4_1 y4_0 y4_1
  refine region_ret w.heap.size w [(W2.heap.size,#[.float .f64 p,.float .f64 q],28),(W2.heap.size + 1,#[.float .f64 p,.float .f64 q],30),(W4.heap.size,#[.float .f64 r,.float .f64 s],28),(W4.heap.size + 1,#[.float .f64 r,.float .f64 s],30)] [.v (.agg #[.float .f64 p,.float .f64 q]),.v (.agg #[.float .f64 r,.float .f64 s]),.v (.agg #[.float .f64 p,.float .f64 q,.float .f64 r,.float .f64 s]),.v (.agg #[.float .f64 p,.float .f64 q]),.v (.agg #[.float .f64 r,.float .f64 s]),.v (.agg #[.float .f64 p,.float .f64 q,.float .f64 r,.float .f64 s]),.v (.bool false),.v (.bool false),.v (undef),.v (.bool false),.st (w.heap.size + 1) 65 #[.float .f64 0,.float .f64 0,.float .f64 0,.float .f64 0] #[.float .f64 p,.float .f64 q,.float .f64 r,.float .f64 s],.st (w.heap.size + 2) 67 #[.float .f64 0,.float .f64 0,.float .f64 0,.float .f64 0] #[.float .f64 p,.float .f64 q,.float .f64 r,.float .f64 s],.v (.bool false)]
   ?flf ?hflf kR kR kR kR lR B
   (by intro x hx; simp only [List.mem_cons,List.not_mem_nil,or_false] at hx; rcases hx with rfl | rfl | rfl | rfl; exact X3; exact X4; exact X5; exact X6)
   ⟨⟨oM,X1,(by intro x hx; simp only [List.mem_cons,List.not_mem_nil,or_false] at hx; rcases hx with rfl | rfl | rfl | rfl <;> (simp only; omega))⟩,⟨oM,X2,(by intro x hx; simp only [List.mem_cons,List.not_mem_nil,or_false] at hx; rcases hx with rfl | rfl | rfl | rfl <;> (simp only; omega))⟩,trivial⟩ ⟨⟨oM,trivial⟩,trivial,trivial⟩
   ⟨fN (fLr 0 rfl .fr Tryz.underlying28),fN (fLr 2 rfl .fr Tryz.underlying28),fN (fC2 rfl (.is 0) (.is 1) (fun W _=>pair_any p q r s W)),fN (fLr 1 rfl .fr Tryz.underlying30),fN (fLr 3 rfl .fr Tryz.underlying30),fN (fBd rfl rfl (.is 3) (.is 4) (fun W=>sG)),fN (fMo rfl .fr),fN (fMo rfl (.is 6)),fZ 7,fN (fPf rfl (.is 7) .k),fN (fSt rfl .fr (.is 2)),fN (fSt rfl .fr (.is 5)),fN (fAs rfl (.is 9)),trivial⟩ ?_
  case hflf=>intro ts; simp only [fillT,zA,Nat.reduceAdd,sA,sB,sC]; rfl
  intro ts W hBW hP
  have h10:W.heap[w.heap.size + 1]? = some (.cells #[.float .f64 p,.float .f64 q,.float .f64 r,.float .f64 s] 65 (0,0)):=hP 10 sP
  have h11:W.heap[w.heap.size + 2]? = some (.cells #[.float .f64 p,.float .f64 q,.float .f64 r,.float .f64 s] 67 (0,0)):=hP 11 sP
  have h12:ts 12 = .bool false:=hP 12 sP
  simp only [h12]
  obtain ⟨f1_0,f1_1,f1_2,f1_3,-,-,-,-⟩:=bx4 h10
  obtain ⟨f2_0,f2_1,f2_2,f2_3,-,-,-,-⟩:=bx4 h11
  clear hP h10 h11
  go_wp2
  refine bodyPost_ret (v:=.tuple #[.agg #[.float .f64 p,.float .f64 q,.float .f64 r,.float .f64 s],.agg #[.float .f64 p,.float .f64 q,.float .f64 r,.float .f64 s],.bool false]) (by simp [results,Tryz.results23,go_sem,f1_0,f1_1,f1_2,f1_3,f2_0,f2_1,f2_2,f2_3]) rfl ?_
  exact ⟨rfl,hBW⟩
 ·go_upto_region 3 with fail
  obtain ⟨W5,hW5⟩:∃ W:World,W = (W4.alloc (.cells #[.float .f64 r,.float .f64 s] 28)).alloc (.cells #[.float .f64 r,.float .f64 s] 30):=⟨_,rfl⟩
  rw [<- hW5]
  replace X0:W5.heap[w.heap.size]? = some (.cells #[.int .u64 (a:Int),.int .u64 (b:Int),.int .u64 (c:Int),.int .u64 (d:Int)] 63 (0,0)):=by rw [hW5]; exact ((heap_alloc_old _ _ (by first | omega | (simp <;> omega))).trans ((heap_alloc_old _ _ (by first | omega | (simp <;> omega))).trans X0))
  replace X1:W5.heap[w.heap.size + 1]? = some (.cells #[.float .f64 0,.float .f64 0,.float .f64 0,.float .f64 0] 65 (0,0)):=by rw [hW5]; exact ((heap_alloc_old _ _ (by first | omega | (simp <;> omega))).trans ((heap_alloc_old _ _ (by first | omega | (simp <;> omega))).trans X1))
  replace X2:W5.heap[w.heap.size + 2]? = some (.cells #[.float .f64 0,.float .f64 0,.float .f64 0,.float .f64 0] 67 (0,0)):=by rw [hW5]; exact ((heap_alloc_old _ _ (by first | omega | (simp <;> omega))).trans ((heap_alloc_old _ _ (by first | omega | (simp <;> omega))).trans X2))
  replace X3:W5.heap[W2.heap.size]? = some (.cells #[.float .f64 p,.float .f64 q] 28 (0,0)):=by rw [hW5]; exact ((heap_alloc_old _ _ (by first | omega | (simp <;> omega))).trans ((heap_alloc_old _ _ (by first | omega | (simp <;> omega))).trans X3))
  replace X4:W5.heap[W2.heap.size + 1]? = some (.cells #[.float .f64 p,.float .f64 q] 30 (0,0)):=by rw [hW5]; exact ((heap_alloc_old _ _ (by first | omega | (simp <;> omega))).trans ((heap_alloc_old _ _ (by first | omega | (simp <;> omega))).trans X4))
  have X5:W5.heap[W4.heap.size]? = some (.cells #[.float .f64 r,.float .f64 s] 28 (0,0)):=by rw [hW5]; exact ((heap_alloc_old _ _ (by first | omega | (simp <;> omega))).trans (alloc_at sP))
  have X6:W5.heap[W4.heap.size + 1]? = some (.cells #[.float .f64 r,.float .f64 s] 30 (0,0)):=by rw [hW5]; exact (alloc_at sP)
  have q0_5:w.heap.size < W4.heap.size:=oM
  have q1_5:w.heap.size + 1 < W4.heap.size:=oM
  have q2_5:w.heap.size + 2 < W4.heap.size:=oM
  have q3_5:W2.heap.size < W4.heap.size:=oM
  have q4_5:W2.heap.size + 1 < W4.heap.size:=oM
  have q0_6:w.heap.size < W4.heap.size + 1:=oM
  have q1_6:w.heap.size + 1 < W4.heap.size + 1:=oM
  have q2_6:w.heap.size + 2 < W4.heap.size + 1:=oM
  have q3_6:W2.heap.size < W4.heap.size + 1:=oM
  have q4_6:W2.heap.size + 1 < W4.heap.size + 1:=oM
  replace z0:w.heap.size < W5.heap.size:=by rw [hW5]; simp <;> omega
  replace z1:w.heap.size + 1 < W5.heap.size:=by rw [hW5]; simp <;> omega
  replace z2:w.heap.size + 2 < W5.heap.size:=by rw [hW5]; simp <;> omega
  replace z3:W2.heap.size < W5.heap.size:=by rw [hW5]; simp <;> omega
  replace z4:W2.heap.size + 1 < W5.heap.size:=by rw [hW5]; simp <;> omega
  have z5:W4.heap.size < W5.heap.size:=by rw [hW5]; simp <;> omega
  have z6:W4.heap.size + 1 < W5.heap.size:=by rw [hW5]; simp <;> omega
  replace B:Below w.heap.size w W5:=by rw [hW5]; exact (bT (bT B (below_alloc _ _)) (below_alloc _ _))
  clear hW5
  clear f0_0 f0_1 f0_2 f0_3 y0_0 y0_1 y0_2 y0_3 f1_0 f1_1 f1_2 f1_3 y1_0 y1_1 y1_2 y1_3 f2_0 f2_1 f2_2 f2_3 y2_0 y2_1 y2_2 y2_3 f3_0 f3_1 y3_0 y3_1 f4_0 f4_1 y4_0 y4_1
  refine region_ret w.heap.size w [(W2.heap.size,#[.float .f64 p,.float .f64 q],28),(W2.heap.size + 1,#[.float .f64 p,.float .f64 q],30),(W4.heap.size,#[.float .f64 r,.float .f64 s],28),(W4.heap.size + 1,#[.float .f64 r,.float .f64 s],30)] [.v (.agg #[.float .f64 p,.float .f64 q]),.v (.agg #[.float .f64 r,.float .f64 s]),.v (.agg #[.float .f64 p,.float .f64 q,.float .f64 r,.float .f64 s]),.v (.agg #[.float .f64 p,.float .f64 q]),.v (.agg #[.float .f64 r,.float .f64 s]),.v (.agg #[.float .f64 p,.float .f64 q,.float .f64 r,.float .f64 s]),.v (.bool true),.v (.bool true),.v (.bool v),.v (.bool v),.st (w.heap.size + 1) 65 #[.float .f64 0,.float .f64 0,.float .f64 0,.float .f64 0] #[.float .f64 p,.float .f64 q,.float .f64 r,.float .f64 s],.st (w.heap.size + 2) 67 #[.float .f64 0,.float .f64 0,.float .f64 0,.float .f64 0] #[.float .f64 p,.float .f64 q,.float .f64 r,.float .f64 s],.v (.bool v)]
   ?flt ?hflt kR kR kR kR lR B
   (by intro x hx; simp only [List.mem_cons,List.not_mem_nil,or_false] at hx; rcases hx with rfl | rfl | rfl | rfl; exact X3; exact X4; exact X5; exact X6)
   ⟨⟨oM,X1,(by intro x hx; simp only [List.mem_cons,List.not_mem_nil,or_false] at hx; rcases hx with rfl | rfl | rfl | rfl <;> (simp only; omega))⟩,⟨oM,X2,(by intro x hx; simp only [List.mem_cons,List.not_mem_nil,or_false] at hx; rcases hx with rfl | rfl | rfl | rfl <;> (simp only; omega))⟩,trivial⟩ ⟨⟨oM,trivial⟩,trivial,trivial⟩
   ⟨fN (fLr 0 rfl .fr Tryz.underlying28),fN (fLr 2 rfl .fr Tryz.underlying28),fN (fC2 rfl (.is 0) (.is 1) (fun W _=>pair_any p q r s W)),fN (fLr 1 rfl .fr Tryz.underlying30),fN (fLr 3 rfl .fr Tryz.underlying30),fN (fBd rfl rfl (.is 3) (.is 4) (fun W=>sG)),fN (fMo rfl .fr),fN (fMo rfl (.is 6)),fG 7 (fMo rfl .fr),fN (fPt rfl (.is 7) (.is 8)),fN (fSt rfl .fr (.is 2)),fN (fSt rfl .fr (.is 5)),fN (fAs rfl (.is 9)),trivial⟩ ?_
  case hflt=>intro ts; simp only [fillT,zA,Nat.reduceAdd,sA,sB,sC]; rfl
  intro ts W hBW hP
  have h10:W.heap[w.heap.size + 1]? = some (.cells #[.float .f64 p,.float .f64 q,.float .f64 r,.float .f64 s] 65 (0,0)):=hP 10 sP
  have h11:W.heap[w.heap.size + 2]? = some (.cells #[.float .f64 p,.float .f64 q,.float .f64 r,.float .f64 s] 67 (0,0)):=hP 11 sP
  have h12:ts 12 = .bool v:=hP 12 sP
  simp only [h12]
  obtain ⟨f1_0,f1_1,f1_2,f1_3,-,-,-,-⟩:=bx4 h10
  obtain ⟨f2_0,f2_1,f2_2,f2_3,-,-,-,-⟩:=bx4 h11
  clear hP h10 h11
  go_wp2
  refine bodyPost_ret (v:=.tuple #[.agg #[.float .f64 p,.float .f64 q,.float .f64 r,.float .f64 s],.agg #[.float .f64 p,.float .f64 q,.float .f64 r,.float .f64 s],.bool v]) (by simp [results,Tryz.results23,go_sem,f1_0,f1_1,f1_2,f1_3,f2_0,f2_1,f2_2,f2_3]) rfl ?_
  exact ⟨rfl,hBW⟩
theorem both_any (a b c d:Nat) (w:World):Calls Tryz.prog 23 #[.agg #[.int .u64 (a:Int),.int .u64 (b:Int),.int .u64 (c:Int),.int .u64 (d:Int)]] w fun e w'=>e = .returned (.tuple #[(bxOf a b c d).v,(bxOf a b c d).v,.bool (bxB a b c d)]) /\ Below w.heap.size w w' :=
 both_raw a b c d _ _ _ _ _ _ (hid fun W=>span_any a b W) (hid fun W=>span_any c d W) w
end Go.Proofs.YtjodlmanheeajaaGreatDoor
