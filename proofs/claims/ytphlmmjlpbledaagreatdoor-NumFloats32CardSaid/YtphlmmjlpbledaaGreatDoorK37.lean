import Derived.Test.YtphlmmjlpbledaaGreatDoorK14
import Derived.Test.YtphlmmjlpbledaaGreatDoorK33
import Derived.Test.YtphlmmjlpbledaaGreatDoorK36
set_option linter.unusedSimpArgs false
set_option linter.unusedVariables false
namespace Go.Proofs.YtphlmmjlpbledaaGreatDoor
open Go.RowKit
set_option maxRecDepth 100000
def kRI (z : Int) : Value → World → Prop := fun v W => IsRI W v z
def kQ (x : Cx) : Value → World → Prop := fun v W => IsQ W v x
theorem stabB_ri (z : Int) : StabB (kRI z) := fun _ _ _ hb h => IsRI.below h hb
theorem stabB_q (x : Cx) : StabB (kQ x) := fun _ _ _ hb h => IsQ.below h hb
theorem IsRI.ext {w w' : World} {v : Value} {z : Int} (h : IsRI w v z) (hb : Ext w w') : IsRI w' v z := by
  obtain ⟨s, h1, h2⟩ := h
  exact ⟨s, h1, h2.ext hb⟩
theorem IsQ.ext {w w' : World} {v : Value} {x : Cx} (h : IsQ w v x) (hb : Ext w w') : IsQ w' v x := by
  obtain ⟨r, p, i, q, s, a, b, d, h1, h2, h3, h4, h5⟩ := h
  exact ⟨r, p, i, q, s, a, b, d, h1, h2, h3.ext hb, h4.ext hb, h5.ext hb⟩
def zRI : Array Value := #[.bool false, .slice none 0 0]
theorem alloc_ri : AllocOk Tryz.prog 33 zRI := fun W => by
  simp [go_sem, zRI]
theorem store_riIs (b : Bool) (A : Option Addr) (n c : Nat) : StoreOk Tryz.prog 33 zRI (kIs (.agg #[.bool b, .slice A n c])) := ⟨by kernel_rfl, fun v W h => ⟨_, h, rfl, by simp [Value.oneCell']⟩⟩
theorem held_boxI {kl : List RK} {B : Nat} {ts : Nat → Value} {W : World} {b c k : Nat} {cs : Array Value} (h : Held kl B ts (fun _ => true) W b) (hb : rk kl b = .box 33 zRI) (h' : Held kl B ts (fun _ => true) W k) (hk : rk kl k = .put b c)
    (h2 : Held kl B ts (fun _ => true) W c) (hc : rk kl c = .val (kIs (.agg cs))) : ∃ g, ts b = .pointer (some ⟨g, 0, none⟩) ∧ B ≤ g ∧ g < W.heap.size ∧ W.heap[g]? = some (.cells cs 33 (0, 0)) := by
  have hx := held_is h2 hc
  unfold Held at h h'
  rw [hb] at h
  rw [hk] at h'
  simp only at h h'
  obtain ⟨g, h1, h3, h4, -⟩ := h
  obtain ⟨g', cs', T, z, e1, e2, e3, e4⟩ := h'
  rw [h1] at e1
  injection e1 with e1
  injection e1 with e1
  injection e1 with e1
  subst e1
  rw [hx] at e2
  injection e2 with e2
  subst e2
  rw [hb] at e3
  injection e3 with e3 _
  subst e3
  exact ⟨g, h1, h3, h4, e4⟩
theorem IsRI.nat {w : World} {v : Value} {d : Nat} (h : IsNat w v d) : IsRI w (.agg #[.bool false, v]) (d : Int) := ⟨v, by rw [show decide ((d : Int) < 0) = false by simp], by rw [Int.natAbs_natCast]; exact h⟩
set_option maxHeartbeats 2000000 in
theorem rAdd_any (v u : Value) (x y : Cx) (w : World) (h : IsQ w v x) (h' : IsQ w u y) (m n : Nat) (hx : Sz x m) (hy : Sz y n) (hm : m + n + 1 < 549755813888) :
    Calls Tryz.prog 59 #[v, u] w (RetQ w (x.add y)) := by
  obtain ⟨A1, n1, c1, p1, A1b, n1b, c1b, p1b, A1c, n1c, c1c, a1, b1, d1, rfl, hl1, hr1, hi1, hs1, hn1, hm1, hd1, hp1, hq1, -, -⟩ := h.parts
  obtain ⟨A2, n2, c2, p2, A2b, n2b, c2b, p2b, A2c, n2c, c2c, a2, b2, d2, rfl, hl2, hr2, hi2, hs2, hn2, hm2, hd2, hp2, hq2, -, -⟩ := h'.parts
  obtain ⟨s1, s3, s9⟩ := hx _ _ _ hl1
  obtain ⟨s2, s4, s10⟩ := hy _ _ _ hl2
  have e1 := wl_imul a1 d2
  have e2 := wl_imul a2 d1
  have e3 := wl_imul b1 d2
  have e4 := wl_imul b2 d1
  have e5 := wl_iadd (a1 * (d2 : Int)) (a2 * (d1 : Int))
  have e6 := wl_iadd (b1 * (d2 : Int)) (b2 * (d1 : Int))
  have e7 : wl (d1 * d2) ≤ wl d1 + wl d2 := wl_mul _ _
  have e8 := wl_inat d1
  have e9 := wl_inat d2
  have g1 : wl a1.natAbs < 549755813888 := by omega
  have g2 : wl a2.natAbs < 549755813888 := by omega
  have g3 : wl b1.natAbs < 549755813888 := by omega
  have g4 : wl b2.natAbs < 549755813888 := by omega
  have y5 : wl (a1 * (d2 : Int)).natAbs < 549755813888 := by omega
  have y6 : wl (a2 * (d1 : Int)).natAbs < 549755813888 := by omega
  have g7 : wl (b1 * (d2 : Int)).natAbs < 549755813888 := by omega
  have g8 : wl (b2 * (d1 : Int)).natAbs < 549755813888 := by omega
  have g9 : wl (d1 : Int).natAbs < 549755813888 := by omega
  have g10 : wl (d2 : Int).natAbs < 549755813888 := by omega
  have ht := add_terms hl1 hl2
  have HM := hid (fun v1 v2 v3 W (q1 : IsRI W v1 (a1 * (d2 : Int) + a2 * (d1 : Int))) (q2 : IsRI W v2 (b1 * (d2 : Int) + b2 * (d1 : Int))) (q3 : IsNat W v3 (d1 * d2)) => rMake_any v1 v2 v3 _ _ _ (x.add y) W q1 q2 q3 (Nat.mul_pos hl1.pos hl2.pos) ht.1 ht.2 (by omega) (by omega) (by omega))
  have HD := hid (IsRI.nat hs1)
  have HE := hid (IsRI.nat hs2)
  have HR1 := hid hr1
  have HI1 := hid hi1
  have HD1 := hid hs1
  have HR2 := hid hr2
  have HI2 := hid hi2
  have HD2 := hid hs2
  clear hr1 hi1 hs1 hr2 hi2 hs2 hn1 hm1 hd1 hp1 hq1 hn2 hm2 hd2 hp2 hq2 e1 e2 e3 e4 e5 e6 e7 e8 e9 ht h h' hx hy hm s1 s2 s3 s4 s9 s10 hl1 hl2
  go_enter Tryz.func59, Tryz.ntmps59
  go_upto_region 1 with fail
  obtain ⟨W1, hW1⟩ : ∃ W1 : World, W1 = ((w.alloc (.cells #[.bool p1, .slice A1 n1 c1, .bool p1b, .slice A1b n1b c1b, .slice A1c n1c c1c] 35)).alloc (.cells #[.bool p2, .slice A2 n2 c2, .bool p2b, .slice A2b n2b c2b, .slice A2c n2c c2c] 35)).alloc (.cells #[.bool false, .slice none 0 0, .bool false, .slice none 0 0, .slice none 0 0] 35) := ⟨_, rfl⟩
  rw [← hW1]
  have B1 : Below w.heap.size w W1 := by rw [hW1]; exact bel
  have X := boxes3 w (.cells #[.bool p1, .slice A1 n1 c1, .bool p1b, .slice A1b n1b c1b, .slice A1c n1c c1c] 35) (.cells #[.bool p2, .slice A2 n2 c2, .bool p2b, .slice A2b n2b c2b, .slice A2c n2c c2c] 35) (.cells #[.bool false, .slice none 0 0, .bool false, .slice none 0 0, .slice none 0 0] 35)
  rw [← hW1] at X
  obtain ⟨X0, z0, X1, z1, X2, z2⟩ := X
  clear hW1
  refine region_lin [.val (kIs (.pointer (some ⟨w.heap.size, 4, none⟩))), .val (kIs (.slice A1c n1c c1c)), .val (kIs (.agg #[.bool false, .slice A1c n1c c1c])), .val (kIs (.pointer (some ⟨w.heap.size + 1, 4, none⟩))), .val (kIs (.slice A2c n2c c2c)), .val (kIs (.agg #[.bool false, .slice A2c n2c c2c])), .box 33 zRI, .box 33 zRI, .put 6 2, .put 7 5]
    (by kernel_rfl) (by kernel_rfl) (by kernel_rfl) (by kernel_rfl) (by kernel_rfl) ⟨stab_is _, stab_is _, stab_is _, stab_is _, stab_is _, stab_is _, trivial⟩ (by simp) ⟨?_, ?_, ?_, ?_, ?_, ?_, alloc_ri, alloc_ri, store_riIs _ _ _ _, store_riIs _ _ _ _, trivial⟩ ?_
  · exact obp
  · intro ts W hb hB hp; have h0 : ts 0 = _ := hp 0 (by kernel_rfl); intro K hK; simp only [fillT, Nat.zero_add, Nat.reduceAdd, sA, sB, sC, h0] at hK ⊢; have HK := hid hK; clear hK hp; obtain ⟨f0, f1, f2, f3, f4, -, -, -, -, -⟩ := bx5 ((hb.block _ z0).trans X0); refine ⟨?_⟩; go_simp; exact HK.out _ _ rfl rfB
  · intro ts W hb hB hp; have h1 : ts 1 = _ := hp 1 (by kernel_rfl); intro K hK; simp only [fillT, Nat.zero_add, Nat.reduceAdd, sA, sB, sC, h1] at hK ⊢; have HK := hid hK; clear hK hp; refine ⟨?_⟩; go_simp; exact HK.out _ _ rfl rfB
  · exact obp
  · intro ts W hb hB hp; have h3 : ts 3 = _ := hp 3 (by kernel_rfl); intro K hK; simp only [fillT, Nat.zero_add, Nat.reduceAdd, sA, sB, sC, h3] at hK ⊢; have HK := hid hK; clear hK hp; obtain ⟨f0, f1, f2, f3, f4, -, -, -, -, -⟩ := bx5 ((hb.block _ z1).trans X1); refine ⟨?_⟩; go_simp; exact HK.out _ _ rfl rfB
  · intro ts W hb hB hp; have h4 : ts 4 = _ := hp 4 (by kernel_rfl); intro K hK; simp only [fillT, Nat.zero_add, Nat.reduceAdd, sA, sB, sC, h4] at hK ⊢; have HK := hid hK; clear hK hp; refine ⟨?_⟩; go_simp; exact HK.out _ _ rfl rfB
  intro ts W2 hb2 hh hap
  obtain ⟨g5, e5, lo5, z5, X5⟩ := held_boxI (cs := #[.bool false, .slice A1c n1c c1c]) (hh 6 (by simp)) rfl (hh 8 (by simp)) rfl (hh 2 (by simp)) rfl
  obtain ⟨g6, e6, lo6, z6, X6⟩ := held_boxI (cs := #[.bool false, .slice A2c n2c c2c]) (hh 7 (by simp)) rfl (hh 9 (by simp)) rfl (hh 5 (by simp)) rfl
  simp only [fillT, Nat.zero_add, Nat.reduceAdd, sA, sB, sC, e5, e6]
  clear hh hap e5 e6
  generalize ts 0 = u0_W2 at *
  generalize ts 1 = u1_W2 at *
  generalize ts 2 = u2_W2 at *
  generalize ts 3 = u3_W2 at *
  generalize ts 4 = u4_W2 at *
  generalize ts 5 = u5_W2 at *
  clear ts
  replace X0 := (hb2.block _ z0).trans X0
  replace z0 := Nat.lt_of_lt_of_le z0 hb2.size
  replace X1 := (hb2.block _ z1).trans X1
  replace z1 := Nat.lt_of_lt_of_le z1 hb2.size
  replace X2 := (hb2.block _ z2).trans X2
  replace z2 := Nat.lt_of_lt_of_le z2 hb2.size
  replace B1 := below_trans B1 hb2
  clear hb2
  go_upto_region 2 with fail
  refine region_last [.val (kIs (.pointer (some ⟨w.heap.size, 0, none⟩))), .val (kIs (.agg #[.bool p1, .slice A1 n1 c1])), .val (kIs (.agg #[.bool false, .slice A2c n2c c2c])), .val (kRI (a1 * (d2 : Int))), .val (kIs (.pointer (some ⟨w.heap.size + 1, 0, none⟩))), .val (kIs (.agg #[.bool p2, .slice A2 n2 c2])), .val (kIs (.agg #[.bool false, .slice A1c n1c c1c])), .val (kRI (a2 * (d1 : Int))), .val (kRI (a1 * (d2 : Int) + a2 * (d1 : Int))), .val (kIs (.pointer (some ⟨w.heap.size, 2, none⟩))), .val (kIs (.agg #[.bool p1b, .slice A1b n1b c1b])), .val (kIs (.agg #[.bool false, .slice A2c n2c c2c])), .val (kRI (b1 * (d2 : Int))), .val (kIs (.pointer (some ⟨w.heap.size + 1, 2, none⟩))), .val (kIs (.agg #[.bool p2b, .slice A2b n2b c2b])), .val (kIs (.agg #[.bool false, .slice A1c n1c c1c])), .val (kRI (b2 * (d1 : Int))), .val (kRI (b1 * (d2 : Int) + b2 * (d1 : Int))), .val (kIs (.pointer (some ⟨w.heap.size, 4, none⟩))), .val (kIs (.slice A1c n1c c1c)), .val (kIs (.pointer (some ⟨w.heap.size + 1, 4, none⟩))), .val (kIs (.slice A2c n2c c2c)), .val (kNat (d1 * d2)), .val (kQ (x.add y))]
    (by kernel_rfl) (by kernel_rfl) (by kernel_rfl) (by kernel_rfl) (by kernel_rfl) ⟨Stab.b (stab_is _), Stab.b (stab_is _), Stab.b (stab_is _), stabB_ri _, Stab.b (stab_is _), Stab.b (stab_is _), Stab.b (stab_is _), stabB_ri _, stabB_ri _, Stab.b (stab_is _), Stab.b (stab_is _), Stab.b (stab_is _), stabB_ri _, Stab.b (stab_is _), Stab.b (stab_is _), Stab.b (stab_is _), stabB_ri _, stabB_ri _, Stab.b (stab_is _), Stab.b (stab_is _), Stab.b (stab_is _), Stab.b (stab_is _), stabB_nat _, stabB_q _, trivial⟩ (by simp) (ol := _) rfl (by kernel_rfl) ⟨?_, ?_, ?_, ?_, ?_, ?_, ?_, ?_, ?_, ?_, ?_, ?_, ?_, ?_, ?_, ?_, ?_, ?_, ?_, ?_, ?_, ?_, ?_, ?_, trivial⟩ ?_
  · exact obp
  · intro ts W hb hB hp; have h0 : ts 0 = _ := hp 0 (by kernel_rfl); intro K hK; simp only [fillT, Nat.zero_add, Nat.reduceAdd, sA, sB, sC, h0] at hK ⊢; have HK := hid hK; clear hK hp; obtain ⟨f0, f1, f2, f3, f4, -, -, -, -, -⟩ := bx5 ((hb.block _ z0).trans X0); refine ⟨?_⟩; go_simp; exact HK.out _ _ rfl rfB
  · intro ts W hb hB hp; intro K hK; simp only [fillT, Nat.zero_add, Nat.reduceAdd, sA, sB, sC] at hK ⊢; have HK := hid hK; clear hK hp; obtain ⟨f0, f1, -, -⟩ := bx2 ((hb.block _ z6).trans X6); refine ⟨?_⟩; go_simp; exact HK.out _ _ rfl rfB
  · intro ts W hb hB hp; have h1 : ts 1 = _ := hp 1 (by kernel_rfl); have h2 : ts 2 = _ := hp 2 (by kernel_rfl); intro K hK; simp only [fillT, Nat.zero_add, Nat.reduceAdd, sA, sB, sC, h1, h2] at hK ⊢; have HK := hid hK; clear hK hp; refine ⟨?_⟩; go_simp; refine (rIntMul_any _ _ _ _ W (HR1.out.below (below_trans B1 hb)) (HE.out.below (below_trans B1 hb)) g1 g10).mono ?_; rintro e W9 ⟨r9, rfl, hr9, hb9⟩; exact HK.out _ _ hr9 hb9
  · exact obp
  · intro ts W hb hB hp; have h4 : ts 4 = _ := hp 4 (by kernel_rfl); intro K hK; simp only [fillT, Nat.zero_add, Nat.reduceAdd, sA, sB, sC, h4] at hK ⊢; have HK := hid hK; clear hK hp; obtain ⟨f0, f1, f2, f3, f4, -, -, -, -, -⟩ := bx5 ((hb.block _ z1).trans X1); refine ⟨?_⟩; go_simp; exact HK.out _ _ rfl rfB
  · intro ts W hb hB hp; intro K hK; simp only [fillT, Nat.zero_add, Nat.reduceAdd, sA, sB, sC] at hK ⊢; have HK := hid hK; clear hK hp; obtain ⟨f0, f1, -, -⟩ := bx2 ((hb.block _ z5).trans X5); refine ⟨?_⟩; go_simp; exact HK.out _ _ rfl rfB
  · intro ts W hb hB hp; have h5 : ts 5 = _ := hp 5 (by kernel_rfl); have h6 : ts 6 = _ := hp 6 (by kernel_rfl); intro K hK; simp only [fillT, Nat.zero_add, Nat.reduceAdd, sA, sB, sC, h5, h6] at hK ⊢; have HK := hid hK; clear hK hp; refine ⟨?_⟩; go_simp; refine (rIntMul_any _ _ _ _ W (HR2.out.below (below_trans B1 hb)) (HD.out.below (below_trans B1 hb)) g2 g9).mono ?_; rintro e W9 ⟨r9, rfl, hr9, hb9⟩; exact HK.out _ _ hr9 hb9
  · intro ts W hb hB hp; have h3 := hp 3 (by kernel_rfl); have h7 := hp 7 (by kernel_rfl); intro K hK; simp only [fillT, Nat.zero_add, Nat.reduceAdd, sA, sB, sC] at hK ⊢; have HK := hid hK; clear hK hp; refine ⟨?_⟩; go_simp; refine (rIntAdd_any _ _ _ _ W h3 h7 y5 y6).mono ?_; rintro e W9 ⟨r9, rfl, hr9, hb9⟩; exact HK.out _ _ hr9 hb9
  · exact obp
  · intro ts W hb hB hp; have h9 : ts 9 = _ := hp 9 (by kernel_rfl); intro K hK; simp only [fillT, Nat.zero_add, Nat.reduceAdd, sA, sB, sC, h9] at hK ⊢; have HK := hid hK; clear hK hp; obtain ⟨f0, f1, f2, f3, f4, -, -, -, -, -⟩ := bx5 ((hb.block _ z0).trans X0); refine ⟨?_⟩; go_simp; exact HK.out _ _ rfl rfB
  · intro ts W hb hB hp; intro K hK; simp only [fillT, Nat.zero_add, Nat.reduceAdd, sA, sB, sC] at hK ⊢; have HK := hid hK; clear hK hp; obtain ⟨f0, f1, -, -⟩ := bx2 ((hb.block _ z6).trans X6); refine ⟨?_⟩; go_simp; exact HK.out _ _ rfl rfB
  · intro ts W hb hB hp; have h10 : ts 10 = _ := hp 10 (by kernel_rfl); have h11 : ts 11 = _ := hp 11 (by kernel_rfl); intro K hK; simp only [fillT, Nat.zero_add, Nat.reduceAdd, sA, sB, sC, h10, h11] at hK ⊢; have HK := hid hK; clear hK hp; refine ⟨?_⟩; go_simp; refine (rIntMul_any _ _ _ _ W (HI1.out.below (below_trans B1 hb)) (HE.out.below (below_trans B1 hb)) g3 g10).mono ?_; rintro e W9 ⟨r9, rfl, hr9, hb9⟩; exact HK.out _ _ hr9 hb9
  · exact obp
  · intro ts W hb hB hp; have h13 : ts 13 = _ := hp 13 (by kernel_rfl); intro K hK; simp only [fillT, Nat.zero_add, Nat.reduceAdd, sA, sB, sC, h13] at hK ⊢; have HK := hid hK; clear hK hp; obtain ⟨f0, f1, f2, f3, f4, -, -, -, -, -⟩ := bx5 ((hb.block _ z1).trans X1); refine ⟨?_⟩; go_simp; exact HK.out _ _ rfl rfB
  · intro ts W hb hB hp; intro K hK; simp only [fillT, Nat.zero_add, Nat.reduceAdd, sA, sB, sC] at hK ⊢; have HK := hid hK; clear hK hp; obtain ⟨f0, f1, -, -⟩ := bx2 ((hb.block _ z5).trans X5); refine ⟨?_⟩; go_simp; exact HK.out _ _ rfl rfB
  · intro ts W hb hB hp; have h14 : ts 14 = _ := hp 14 (by kernel_rfl); have h15 : ts 15 = _ := hp 15 (by kernel_rfl); intro K hK; simp only [fillT, Nat.zero_add, Nat.reduceAdd, sA, sB, sC, h14, h15] at hK ⊢; have HK := hid hK; clear hK hp; refine ⟨?_⟩; go_simp; refine (rIntMul_any _ _ _ _ W (HI2.out.below (below_trans B1 hb)) (HD.out.below (below_trans B1 hb)) g4 g9).mono ?_; rintro e W9 ⟨r9, rfl, hr9, hb9⟩; exact HK.out _ _ hr9 hb9
  · intro ts W hb hB hp; have h12 := hp 12 (by kernel_rfl); have h16 := hp 16 (by kernel_rfl); intro K hK; simp only [fillT, Nat.zero_add, Nat.reduceAdd, sA, sB, sC] at hK ⊢; have HK := hid hK; clear hK hp; refine ⟨?_⟩; go_simp; refine (rIntAdd_any _ _ _ _ W h12 h16 g7 g8).mono ?_; rintro e W9 ⟨r9, rfl, hr9, hb9⟩; exact HK.out _ _ hr9 hb9
  · exact obp
  · intro ts W hb hB hp; have h18 : ts 18 = _ := hp 18 (by kernel_rfl); intro K hK; simp only [fillT, Nat.zero_add, Nat.reduceAdd, sA, sB, sC, h18] at hK ⊢; have HK := hid hK; clear hK hp; obtain ⟨f0, f1, f2, f3, f4, -, -, -, -, -⟩ := bx5 ((hb.block _ z0).trans X0); refine ⟨?_⟩; go_simp; exact HK.out _ _ rfl rfB
  · exact obp
  · intro ts W hb hB hp; have h20 : ts 20 = _ := hp 20 (by kernel_rfl); intro K hK; simp only [fillT, Nat.zero_add, Nat.reduceAdd, sA, sB, sC, h20] at hK ⊢; have HK := hid hK; clear hK hp; obtain ⟨f0, f1, f2, f3, f4, -, -, -, -, -⟩ := bx5 ((hb.block _ z1).trans X1); refine ⟨?_⟩; go_simp; exact HK.out _ _ rfl rfB
  · intro ts W hb hB hp; have h19 : ts 19 = _ := hp 19 (by kernel_rfl); have h21 : ts 21 = _ := hp 21 (by kernel_rfl); intro K hK; simp only [fillT, Nat.zero_add, Nat.reduceAdd, sA, sB, sC, h19, h21] at hK ⊢; have HK := hid hK; clear hK hp; refine ⟨?_⟩; go_simp; refine (rNatMul_any _ _ _ _ W (HD1.out.below (below_trans B1 hb)) (HD2.out.below (below_trans B1 hb)) g9 g10).mono ?_; rintro e W9 ⟨r9, rfl, hr9, hb9⟩; exact HK.out _ _ hr9 hb9
  · intro ts W hb hB hp; have h8 := hp 8 (by kernel_rfl); have h17 := hp 17 (by kernel_rfl); have h22 := hp 22 (by kernel_rfl); intro K hK; simp only [fillT, Nat.zero_add, Nat.reduceAdd, sA, sB, sC] at hK ⊢; have HK := hid hK; clear hK hp; refine ⟨?_⟩; go_simp; refine (HM.out _ _ _ W h8 h17 h22).mono ?_; rintro e W9 ⟨r9, rfl, hr9, hb9⟩; exact HK.out _ _ hr9 hb9
  intro ts W3 hb3 hh hap K hK
  have hq : IsQ W3 (ts 23) (x.add y) := hh 23 (by simp)
  obtain ⟨A9, n9, c9, p9, A9b, n9b, c9b, p9b, A9c, n9c, c9c, qa, qb, qd, hqe, -⟩ := hq.parts
  have Y0 := (hb3.block (w.heap.size + 2) (by omega)).trans X2
  have HK := hid hK
  clear hK
  simp only [fillT, Nat.zero_add, Nat.reduceAdd, sA, sB, sC, hqe]
  rw [hqe] at hq
  clear hh hap hqe
  refine ⟨?_⟩
  refine wp_store_row _ _ _ rfl (w.heap.size + 2) _ rfl rfl _ _ Y0 (by kernel_rfl) rfl (by simp [Value.oneCell']) (HK.out _ _ ?_)
  have hput := putAt_setRow (cs := #[.bool p9, .slice A9 n9 c9, .bool p9b, .slice A9b n9b c9b, .slice A9c n9c c9c]) Y0
  have hext := hput.ext Y0 (by decide)
  have B2 := hput.below (below_trans B1 hb3) (by omega)
  generalize W3.setRow (w.heap.size + 2) #[.bool p9, .slice A9 n9 c9, .bool p9b, .slice A9b n9b c9b, .slice A9c n9c c9c] = W4 at *
  have h5 := hq.ext hext
  obtain ⟨f0, f1, f2, f3, f4, y0, y1, y2, y3, y4⟩ := bx5 hput.here
  clear hput hext hq Y0 HK
  go_wp2
  refine bodyPost_ret (v := .agg #[.bool p9, .slice A9 n9 c9, .bool p9b, .slice A9b n9b c9b, .slice A9c n9c c9c]) (by simp [results, Tryz.results59, go_sem, f0, f1, f2, f3, f4]) rfl ?_
  exact ⟨_, rfl, h5, B2⟩
end Go.Proofs.YtphlmmjlpbledaaGreatDoor
