import Derived.Deep.RegionHeld3
import Derived.Test.YtccldiokpgjocaaGreatDoorR14
import Derived.Test.YtccldiokpgjocaaGreatDoorR24
import Derived.Test.YtccldiokpgjocaaGreatDoorR25
import Derived.Test.YtccldiokpgjocaaGreatDoorR29
import Derived.Test.YtccldiokpgjocaaGreatDoorR30
set_option linter.unusedSimpArgs false
set_option linter.unusedVariables false
namespace Go.Proofs.YtccldiokpgjocaaGreatDoor
open Go.RowKit
set_option maxRecDepth 100000
def kRI (z : Int) : Value → World → Prop := fun v W => IsRI W v z
def kQ (x : Cx) : Value → World → Prop := fun v W => IsQ W v x
theorem stabB_ri (z : Int) : StabB (kRI z) := fun _ _ _ hb h => IsRI.below h hb
theorem stabB_q (x : Cx) : StabB (kQ x) := fun _ _ _ hb h => IsQ.below h hb
theorem IsRI.ext {w w' : World} {v : Value} {z : Int} (h : IsRI w v z) (hb : Ext w w') : IsRI w' v z := by
  obtain ⟨s, h1, h2⟩ := h
  exact ⟨s, h1, h2.ext hb⟩
theorem IsQ.ext {w w' : World} {v : Value} {x : Cx} (h : IsQ w v x) (hb : Ext w w') : IsQ w' v x := by
  obtain ⟨r, p, i, q, s, a, b, d, h1, h2, h3, h4, h5⟩ := h
  exact ⟨r, p, i, q, s, a, b, d, h1, h2, h3.ext hb, h4.ext hb, h5.ext hb⟩
set_option maxHeartbeats 2000000 in
theorem rMul_any (v u : Value) (x y : Cx) (w : World) (h : IsQ w v x) (h' : IsQ w u y) (m n : Nat) (hx : Sz x m) (hy : Sz y n) (hm : m + n + 1 < 549755813888) :
    Calls Tryz.prog 35 #[v, u] w (RetQ w (x.mul y)) := by
  obtain ⟨A1, n1, c1, p1, A1b, n1b, c1b, p1b, A1c, n1c, c1c, a1, b1, d1, rfl, hl1, hr1, hi1, hs1, hn1, hm1, hd1, hp1, hq1, -, -⟩ := h.parts
  obtain ⟨A2, n2, c2, p2, A2b, n2b, c2b, p2b, A2c, n2c, c2c, a2, b2, d2, rfl, hl2, hr2, hi2, hs2, hn2, hm2, hd2, hp2, hq2, -, -⟩ := h'.parts
  obtain ⟨s1, s3, s9⟩ := hx _ _ _ hl1
  obtain ⟨s2, s4, s10⟩ := hy _ _ _ hl2
  have e1 := wl_imul a1 a2
  have e2 := wl_imul b1 b2
  have e3 := wl_imul a1 b2
  have e4 := wl_imul b1 a2
  have e5 := wl_isub (a1 * a2) (b1 * b2)
  have e6 := wl_iadd (a1 * b2) (b1 * a2)
  have e7 : wl (d1 * d2) ≤ wl d1 + wl d2 := wl_mul _ _
  have g1 : wl a1.natAbs < 549755813888 := by omega
  have g2 : wl a2.natAbs < 549755813888 := by omega
  have g3 : wl b1.natAbs < 549755813888 := by omega
  have g4 : wl b2.natAbs < 549755813888 := by omega
  have g5 : wl (a1 * a2).natAbs < 549755813888 := by omega
  have g6 : wl (b1 * b2).natAbs < 549755813888 := by omega
  have g7 : wl (a1 * b2).natAbs < 549755813888 := by omega
  have g8 : wl (b1 * a2).natAbs < 549755813888 := by omega
  have g9 : wl d1 < 549755813888 := by omega
  have g10 : wl d2 < 549755813888 := by omega
  have ht := mul_terms hl1 hl2
  have HM := hid (fun v1 v2 v3 W (q1 : IsRI W v1 (a1 * a2 - b1 * b2)) (q2 : IsRI W v2 (a1 * b2 + b1 * a2)) (q3 : IsNat W v3 (d1 * d2)) => rMake_any v1 v2 v3 _ _ _ (x.mul y) W q1 q2 q3 (Nat.mul_pos hl1.pos hl2.pos) ht.1 ht.2 (by omega) (by omega) (by omega))
  have HR1 := hid hr1
  have HI1 := hid hi1
  have HD1 := hid hs1
  have HR2 := hid hr2
  have HI2 := hid hi2
  have HD2 := hid hs2
  clear hr1 hi1 hs1 hr2 hi2 hs2 hn1 hm1 hd1 hp1 hq1 hn2 hm2 hd2 hp2 hq2 e1 e2 e3 e4 e5 e6 e7 ht h h' hx hy hm s1 s2 s3 s4 s9 s10 hl1 hl2
  go_enter Tryz.func35, Tryz.ntmps35
  go_upto_region 1 with fail
  obtain ⟨W1, hW1⟩ : ∃ W1 : World, W1 = ((w.alloc (.cells #[.bool p1, .slice A1 n1 c1, .bool p1b, .slice A1b n1b c1b, .slice A1c n1c c1c] 34)).alloc (.cells #[.bool p2, .slice A2 n2 c2, .bool p2b, .slice A2b n2b c2b, .slice A2c n2c c2c] 34)).alloc (.cells #[.bool false, .slice none 0 0, .bool false, .slice none 0 0, .slice none 0 0] 34) := ⟨_, rfl⟩
  rw [← hW1]
  have B1 : Below w.heap.size w W1 := by rw [hW1]; exact bel
  have X := boxes3 w (.cells #[.bool p1, .slice A1 n1 c1, .bool p1b, .slice A1b n1b c1b, .slice A1c n1c c1c] 34) (.cells #[.bool p2, .slice A2 n2 c2, .bool p2b, .slice A2b n2b c2b, .slice A2c n2c c2c] 34) (.cells #[.bool false, .slice none 0 0, .bool false, .slice none 0 0, .slice none 0 0] 34)
  rw [← hW1] at X
  obtain ⟨X0, z0, X1, z1, X2, z2⟩ := X
  clear hW1
  refine region_last [.val (kIs (.pointer (some ⟨w.heap.size, 0, none⟩))), .val (kIs (.agg #[.bool p1, .slice A1 n1 c1])), .val (kIs (.pointer (some ⟨w.heap.size + 1, 0, none⟩))), .val (kIs (.agg #[.bool p2, .slice A2 n2 c2])), .val (kRI (a1 * a2)), .val (kIs (.pointer (some ⟨w.heap.size, 2, none⟩))), .val (kIs (.agg #[.bool p1b, .slice A1b n1b c1b])), .val (kIs (.pointer (some ⟨w.heap.size + 1, 2, none⟩))), .val (kIs (.agg #[.bool p2b, .slice A2b n2b c2b])), .val (kRI (b1 * b2)), .val (kRI (a1 * a2 - b1 * b2)), .val (kIs (.pointer (some ⟨w.heap.size, 0, none⟩))), .val (kIs (.agg #[.bool p1, .slice A1 n1 c1])), .val (kIs (.pointer (some ⟨w.heap.size + 1, 2, none⟩))), .val (kIs (.agg #[.bool p2b, .slice A2b n2b c2b])), .val (kRI (a1 * b2)), .val (kIs (.pointer (some ⟨w.heap.size, 2, none⟩))), .val (kIs (.agg #[.bool p1b, .slice A1b n1b c1b])), .val (kIs (.pointer (some ⟨w.heap.size + 1, 0, none⟩))), .val (kIs (.agg #[.bool p2, .slice A2 n2 c2])), .val (kRI (b1 * a2)), .val (kRI (a1 * b2 + b1 * a2)), .val (kIs (.pointer (some ⟨w.heap.size, 4, none⟩))), .val (kIs (.slice A1c n1c c1c)), .val (kIs (.pointer (some ⟨w.heap.size + 1, 4, none⟩))), .val (kIs (.slice A2c n2c c2c)), .val (kNat (d1 * d2)), .val (kQ (x.mul y))]
    (by kernel_rfl) (by kernel_rfl) (by kernel_rfl) (by kernel_rfl) (by kernel_rfl) ⟨Stab.b (stab_is _), Stab.b (stab_is _), Stab.b (stab_is _), Stab.b (stab_is _), stabB_ri _, Stab.b (stab_is _), Stab.b (stab_is _), Stab.b (stab_is _), Stab.b (stab_is _), stabB_ri _, stabB_ri _, Stab.b (stab_is _), Stab.b (stab_is _), Stab.b (stab_is _), Stab.b (stab_is _), stabB_ri _, Stab.b (stab_is _), Stab.b (stab_is _), Stab.b (stab_is _), Stab.b (stab_is _), stabB_ri _, stabB_ri _, Stab.b (stab_is _), Stab.b (stab_is _), Stab.b (stab_is _), Stab.b (stab_is _), stabB_nat _, stabB_q _, trivial⟩ (by simp) (ol := _) rfl (by kernel_rfl) ⟨?_, ?_, ?_, ?_, ?_, ?_, ?_, ?_, ?_, ?_, ?_, ?_, ?_, ?_, ?_, ?_, ?_, ?_, ?_, ?_, ?_, ?_, ?_, ?_, ?_, ?_, ?_, ?_, trivial⟩ ?_
  · exact obp
  · intro ts W hb hB hp; have h0 : ts 0 = _ := hp 0 (by kernel_rfl); intro K hK; simp only [fillT, Nat.zero_add, Nat.reduceAdd, sA, sB, sC, h0] at hK ⊢; have HK := hid hK; clear hK hp; obtain ⟨f0, f1, f2, f3, f4, -, -, -, -, -⟩ := bx5 ((hb.block _ z0).trans X0); refine ⟨?_⟩; go_simp; exact HK.out _ _ rfl rfB
  · exact obp
  · intro ts W hb hB hp; have h2 : ts 2 = _ := hp 2 (by kernel_rfl); intro K hK; simp only [fillT, Nat.zero_add, Nat.reduceAdd, sA, sB, sC, h2] at hK ⊢; have HK := hid hK; clear hK hp; obtain ⟨f0, f1, f2, f3, f4, -, -, -, -, -⟩ := bx5 ((hb.block _ z1).trans X1); refine ⟨?_⟩; go_simp; exact HK.out _ _ rfl rfB
  · intro ts W hb hB hp; have h1 : ts 1 = _ := hp 1 (by kernel_rfl); have h3 : ts 3 = _ := hp 3 (by kernel_rfl); intro K hK; simp only [fillT, Nat.zero_add, Nat.reduceAdd, sA, sB, sC, h1, h3] at hK ⊢; have HK := hid hK; clear hK hp; refine ⟨?_⟩; go_simp; refine (rIntMul_any _ _ _ _ W (HR1.out.below (below_trans B1 hb)) (HR2.out.below (below_trans B1 hb)) g1 g2).mono ?_; rintro e W9 ⟨r9, rfl, hr9, hb9⟩; exact HK.out _ _ hr9 hb9
  · exact obp
  · intro ts W hb hB hp; have h5 : ts 5 = _ := hp 5 (by kernel_rfl); intro K hK; simp only [fillT, Nat.zero_add, Nat.reduceAdd, sA, sB, sC, h5] at hK ⊢; have HK := hid hK; clear hK hp; obtain ⟨f0, f1, f2, f3, f4, -, -, -, -, -⟩ := bx5 ((hb.block _ z0).trans X0); refine ⟨?_⟩; go_simp; exact HK.out _ _ rfl rfB
  · exact obp
  · intro ts W hb hB hp; have h7 : ts 7 = _ := hp 7 (by kernel_rfl); intro K hK; simp only [fillT, Nat.zero_add, Nat.reduceAdd, sA, sB, sC, h7] at hK ⊢; have HK := hid hK; clear hK hp; obtain ⟨f0, f1, f2, f3, f4, -, -, -, -, -⟩ := bx5 ((hb.block _ z1).trans X1); refine ⟨?_⟩; go_simp; exact HK.out _ _ rfl rfB
  · intro ts W hb hB hp; have h6 : ts 6 = _ := hp 6 (by kernel_rfl); have h8 : ts 8 = _ := hp 8 (by kernel_rfl); intro K hK; simp only [fillT, Nat.zero_add, Nat.reduceAdd, sA, sB, sC, h6, h8] at hK ⊢; have HK := hid hK; clear hK hp; refine ⟨?_⟩; go_simp; refine (rIntMul_any _ _ _ _ W (HI1.out.below (below_trans B1 hb)) (HI2.out.below (below_trans B1 hb)) g3 g4).mono ?_; rintro e W9 ⟨r9, rfl, hr9, hb9⟩; exact HK.out _ _ hr9 hb9
  · intro ts W hb hB hp; have h4 := hp 4 (by kernel_rfl); have h9 := hp 9 (by kernel_rfl); intro K hK; simp only [fillT, Nat.zero_add, Nat.reduceAdd, sA, sB, sC] at hK ⊢; have HK := hid hK; clear hK hp; refine ⟨?_⟩; go_simp; refine (rIntSub_any _ _ _ _ W h4 h9 g5 g6).mono ?_; rintro e W9 ⟨r9, rfl, hr9, hb9⟩; exact HK.out _ _ hr9 hb9
  · exact obp
  · intro ts W hb hB hp; have h11 : ts 11 = _ := hp 11 (by kernel_rfl); intro K hK; simp only [fillT, Nat.zero_add, Nat.reduceAdd, sA, sB, sC, h11] at hK ⊢; have HK := hid hK; clear hK hp; obtain ⟨f0, f1, f2, f3, f4, -, -, -, -, -⟩ := bx5 ((hb.block _ z0).trans X0); refine ⟨?_⟩; go_simp; exact HK.out _ _ rfl rfB
  · exact obp
  · intro ts W hb hB hp; have h13 : ts 13 = _ := hp 13 (by kernel_rfl); intro K hK; simp only [fillT, Nat.zero_add, Nat.reduceAdd, sA, sB, sC, h13] at hK ⊢; have HK := hid hK; clear hK hp; obtain ⟨f0, f1, f2, f3, f4, -, -, -, -, -⟩ := bx5 ((hb.block _ z1).trans X1); refine ⟨?_⟩; go_simp; exact HK.out _ _ rfl rfB
  · intro ts W hb hB hp; have h12 : ts 12 = _ := hp 12 (by kernel_rfl); have h14 : ts 14 = _ := hp 14 (by kernel_rfl); intro K hK; simp only [fillT, Nat.zero_add, Nat.reduceAdd, sA, sB, sC, h12, h14] at hK ⊢; have HK := hid hK; clear hK hp; refine ⟨?_⟩; go_simp; refine (rIntMul_any _ _ _ _ W (HR1.out.below (below_trans B1 hb)) (HI2.out.below (below_trans B1 hb)) g1 g4).mono ?_; rintro e W9 ⟨r9, rfl, hr9, hb9⟩; exact HK.out _ _ hr9 hb9
  · exact obp
  · intro ts W hb hB hp; have h16 : ts 16 = _ := hp 16 (by kernel_rfl); intro K hK; simp only [fillT, Nat.zero_add, Nat.reduceAdd, sA, sB, sC, h16] at hK ⊢; have HK := hid hK; clear hK hp; obtain ⟨f0, f1, f2, f3, f4, -, -, -, -, -⟩ := bx5 ((hb.block _ z0).trans X0); refine ⟨?_⟩; go_simp; exact HK.out _ _ rfl rfB
  · exact obp
  · intro ts W hb hB hp; have h18 : ts 18 = _ := hp 18 (by kernel_rfl); intro K hK; simp only [fillT, Nat.zero_add, Nat.reduceAdd, sA, sB, sC, h18] at hK ⊢; have HK := hid hK; clear hK hp; obtain ⟨f0, f1, f2, f3, f4, -, -, -, -, -⟩ := bx5 ((hb.block _ z1).trans X1); refine ⟨?_⟩; go_simp; exact HK.out _ _ rfl rfB
  · intro ts W hb hB hp; have h17 : ts 17 = _ := hp 17 (by kernel_rfl); have h19 : ts 19 = _ := hp 19 (by kernel_rfl); intro K hK; simp only [fillT, Nat.zero_add, Nat.reduceAdd, sA, sB, sC, h17, h19] at hK ⊢; have HK := hid hK; clear hK hp; refine ⟨?_⟩; go_simp; refine (rIntMul_any _ _ _ _ W (HI1.out.below (below_trans B1 hb)) (HR2.out.below (below_trans B1 hb)) g3 g2).mono ?_; rintro e W9 ⟨r9, rfl, hr9, hb9⟩; exact HK.out _ _ hr9 hb9
  · intro ts W hb hB hp; have h15 := hp 15 (by kernel_rfl); have h20 := hp 20 (by kernel_rfl); intro K hK; simp only [fillT, Nat.zero_add, Nat.reduceAdd, sA, sB, sC] at hK ⊢; have HK := hid hK; clear hK hp; refine ⟨?_⟩; go_simp; refine (rIntAdd_any _ _ _ _ W h15 h20 g7 g8).mono ?_; rintro e W9 ⟨r9, rfl, hr9, hb9⟩; exact HK.out _ _ hr9 hb9
  · exact obp
  · intro ts W hb hB hp; have h22 : ts 22 = _ := hp 22 (by kernel_rfl); intro K hK; simp only [fillT, Nat.zero_add, Nat.reduceAdd, sA, sB, sC, h22] at hK ⊢; have HK := hid hK; clear hK hp; obtain ⟨f0, f1, f2, f3, f4, -, -, -, -, -⟩ := bx5 ((hb.block _ z0).trans X0); refine ⟨?_⟩; go_simp; exact HK.out _ _ rfl rfB
  · exact obp
  · intro ts W hb hB hp; have h24 : ts 24 = _ := hp 24 (by kernel_rfl); intro K hK; simp only [fillT, Nat.zero_add, Nat.reduceAdd, sA, sB, sC, h24] at hK ⊢; have HK := hid hK; clear hK hp; obtain ⟨f0, f1, f2, f3, f4, -, -, -, -, -⟩ := bx5 ((hb.block _ z1).trans X1); refine ⟨?_⟩; go_simp; exact HK.out _ _ rfl rfB
  · intro ts W hb hB hp; have h23 : ts 23 = _ := hp 23 (by kernel_rfl); have h25 : ts 25 = _ := hp 25 (by kernel_rfl); intro K hK; simp only [fillT, Nat.zero_add, Nat.reduceAdd, sA, sB, sC, h23, h25] at hK ⊢; have HK := hid hK; clear hK hp; refine ⟨?_⟩; go_simp; refine (rNatMul_any _ _ _ _ W (HD1.out.below (below_trans B1 hb)) (HD2.out.below (below_trans B1 hb)) g9 g10).mono ?_; rintro e W9 ⟨r9, rfl, hr9, hb9⟩; exact HK.out _ _ hr9 hb9
  · intro ts W hb hB hp; have h10 := hp 10 (by kernel_rfl); have h21 := hp 21 (by kernel_rfl); have h26 := hp 26 (by kernel_rfl); intro K hK; simp only [fillT, Nat.zero_add, Nat.reduceAdd, sA, sB, sC] at hK ⊢; have HK := hid hK; clear hK hp; refine ⟨?_⟩; go_simp; refine (HM.out _ _ _ W h10 h21 h26).mono ?_; rintro e W9 ⟨r9, rfl, hr9, hb9⟩; exact HK.out _ _ hr9 hb9
  intro ts W2 hb2 hh hap K hK
  have hq : IsQ W2 (ts 27) (x.mul y) := hh 27 (by simp)
  obtain ⟨A9, n9, c9, p9, A9b, n9b, c9b, p9b, A9c, n9c, c9c, qa, qb, qd, hqe, -⟩ := hq.parts
  have Y0 := (hb2.block (w.heap.size + 2) (by omega)).trans X2
  have HK := hid hK
  clear hK
  simp only [fillT, Nat.zero_add, Nat.reduceAdd, sA, sB, sC, hqe]
  rw [hqe] at hq
  clear hh hap hqe
  refine ⟨?_⟩
  refine wp_store_row _ _ _ rfl (w.heap.size + 2) _ rfl rfl _ _ Y0 (by kernel_rfl) rfl (by simp [Value.oneCell']) (HK.out _ _ ?_)
  have hput := putAt_setRow (cs := #[.bool p9, .slice A9 n9 c9, .bool p9b, .slice A9b n9b c9b, .slice A9c n9c c9c]) Y0
  have hext := hput.ext Y0 (by decide)
  have B2 := hput.below (below_trans B1 hb2) (by omega)
  generalize W2.setRow (w.heap.size + 2) #[.bool p9, .slice A9 n9 c9, .bool p9b, .slice A9b n9b c9b, .slice A9c n9c c9c] = W3 at *
  have h5 := hq.ext hext
  obtain ⟨f0, f1, f2, f3, f4, y0, y1, y2, y3, y4⟩ := bx5 hput.here
  clear hput hext hq Y0 HK
  go_wp2
  refine bodyPost_ret (v := .agg #[.bool p9, .slice A9 n9 c9, .bool p9b, .slice A9b n9b c9b, .slice A9c n9c c9c]) (by simp [results, Tryz.results35, go_sem, f0, f1, f2, f3, f4]) rfl ?_
  exact ⟨_, rfl, h5, B2⟩
def zRI : Array Value := #[.bool false, .slice none 0 0]
theorem alloc_ri : AllocOk Tryz.prog 32 zRI := fun W => by
  simp [go_sem, zRI]
theorem stab_q (x : Cx) : Stab (kQ x) := fun _ _ _ he h => IsQ.ext h he
def zQ : Array Value := #[.bool false, .slice none 0 0, .bool false, .slice none 0 0, .slice none 0 0]
theorem alloc_q : AllocOk Tryz.prog 34 zQ := fun W => by
  simp [go_sem, zQ]
theorem IsQ.agg {W : World} {v : Value} {x : Cx} (h : IsQ W v x) : ∃ cs, v = .agg cs ∧ cs.size = 5 ∧ cs.all (·.oneCell') = true := by
  obtain ⟨A, n, c, p, A', n', c', p', A'', n'', c'', a, b, d, rfl, -⟩ := h.parts
  exact ⟨_, rfl, rfl, by simp [Value.oneCell']⟩
theorem store_q (x : Cx) : StoreOk Tryz.prog 34 zQ (kQ x) := ⟨by kernel_rfl, fun v W h => IsQ.agg h⟩
def QAt (W : World) (v : Value) (lo : Nat) (x : Cx) : Prop := ∃ g A n c p A' n' c' p' A'' n'' c'', v = .pointer (some ⟨g, 0, none⟩) ∧ lo ≤ g ∧ g < W.heap.size ∧
  W.heap[g]? = some (.cells #[.bool p, .slice A n c, .bool p', .slice A' n' c', .slice A'' n'' c''] 34 (0, 0)) ∧ IsQ W (.agg #[.bool p, .slice A n c, .bool p', .slice A' n' c', .slice A'' n'' c'']) x
theorem held_q {kl : List RK} {B : Nat} {ts : Nat → Value} {W : World} {i : Nat} {x : Cx} (h : Held kl B ts (fun _ => true) W i) (hk : rk kl i = .val (kQ x)) : IsQ W (ts i) x := by
  unfold Held at h
  rw [hk] at h
  exact h
theorem held_boxQ {kl : List RK} {B : Nat} {ts : Nat → Value} {W : World} {b c k : Nat} {x : Cx} (h : Held kl B ts (fun _ => true) W b) (hb : rk kl b = .box 34 zQ) (h' : Held kl B ts (fun _ => true) W k) (hk : rk kl k = .put b c)
    (h2 : Held kl B ts (fun _ => true) W c) (hc : rk kl c = .val (kQ x)) : QAt W (ts b) B x := by
  have hx := held_q h2 hc
  unfold Held at h h'
  rw [hb] at h
  rw [hk] at h'
  simp only at h h'
  obtain ⟨g, h1, h3, h4, -⟩ := h
  obtain ⟨g', cs', T, z, e1, e2, e3, e4⟩ := h'
  rw [h1] at e1
  injection e1 with e1
  injection e1 with e1
  injection e1 with e1
  subst e1
  rw [hb] at e3
  injection e3 with e3 _
  subst e3
  obtain ⟨A, n, c, p, A', n', c', p', A'', n'', c'', a, b, d, he, -⟩ := hx.parts
  rw [he] at e2 hx
  injection e2 with e2
  subst e2
  exact ⟨g, A, n, c, p, A', n', c', p', A'', n'', c'', h1, h3, h4, e4, hx⟩
end Go.Proofs.YtccldiokpgjocaaGreatDoor
