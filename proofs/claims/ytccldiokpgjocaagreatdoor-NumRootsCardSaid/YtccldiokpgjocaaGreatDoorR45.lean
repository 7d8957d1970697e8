import Derived.Deep.RegionHeld3
import Derived.IntWalk
import Derived.Test.YtccldiokpgjocaaGreatDoorR14
import Derived.Test.YtccldiokpgjocaaGreatDoorR17
import Derived.Test.YtccldiokpgjocaaGreatDoorR25
import Derived.Test.YtccldiokpgjocaaGreatDoorR26
import Derived.Test.YtccldiokpgjocaaGreatDoorR28
import Derived.Test.YtccldiokpgjocaaGreatDoorR31
import Derived.Test.YtccldiokpgjocaaGreatDoorR32
import Derived.Test.YtccldiokpgjocaaGreatDoorR33
import Derived.Test.YtccldiokpgjocaaGreatDoorR34
import Derived.Test.YtccldiokpgjocaaGreatDoorR35
import Derived.Test.YtccldiokpgjocaaGreatDoorR42
import Derived.Test.YtccldiokpgjocaaGreatDoorR47
set_option linter.unusedSimpArgs false
set_option linter.unusedVariables false
namespace Go.Proofs.YtccldiokpgjocaaGreatDoor
open Go.RowKit
set_option maxRecDepth 100000
def Cx.conj (x : Cx) : Cx := ⟨x.re, -x.im⟩
theorem Low.conj {x : Cx} {a b : Int} {d : Nat} (h : Low x a b d) : Low x.conj a (-b) d := by
  obtain ⟨hd, hg, h1, h2⟩ := h
  refine ⟨hd, by simpa using hg, h1, ?_⟩
  rw [Rat.intCast_neg]; simp only [Cx.conj]; grind
theorem Sz.conj {x : Cx} {n : Nat} (h : Sz x n) : Sz x.conj n := by
  obtain ⟨a, b, d, hl⟩ := Low.ex x
  have := h _ _ _ hl
  exact Sz.low hl.conj (by omega) (by rw [Int.natAbs_neg]; omega) (by omega)
theorem rcmpI_sign {a b : Int} : (if a < b then (-1 : Int) else if a = b then 0 else 1) = if a < 0 then (if b < 0 then cmpN b.natAbs a.natAbs else -1) else (if b < 0 then 1 else cmpN a.natAbs b.natAbs) := by
  unfold cmpN
  repeat' split
  all_goals first | rfl | omega
set_option maxHeartbeats 1000000 in
theorem rIntCmp_any (v u : Value) (a b : Int) (w : World) (h : IsRI w v a) (h' : IsRI w u b) (sa : wl a.natAbs < 549755813888) (sb : wl b.natAbs < 549755813888) :
    Calls Tryz.prog 166 #[v, u] w fun e w' => e = .returned (.int .i64 (if a < b then (-1 : Int) else if a = b then 0 else 1)) ∧ Below w.heap.size w w' := by
  obtain ⟨A1, n1, c1, rfl, hn1, hs1⟩ := h.parts
  obtain ⟨A2, n2, c2, rfl, hn2, hs2⟩ := h'.parts
  rw [rcmpI_sign]
  have HA := hid (fun W (hb : Below w.heap.size w W) => rNatCmp_any _ _ _ _ W (hs1.below hb) (hs2.below hb) (by omega) (by omega))
  have HB := hid (fun W (hb : Below w.heap.size w W) => rNatCmp_any _ _ _ _ W (hs2.below hb) (hs1.below hb) (by omega) (by omega))
  clear h h' hs1 hs2 hn1 hn2 sa sb
  generalize cmpN a.natAbs b.natAbs = m1 at *
  generalize cmpN b.natAbs a.natAbs = m2 at *
  by_cases ha : a < 0 <;> by_cases hb : b < 0
  · simp only [ha, hb, ↓reduceIte, decide_true, decide_false]
    clear ha hb
    go_enter Tryz.func166, Tryz.ntmps166
    go_wp2_with fail
    refine (HB.out _ bel).mono ?_
    rintro e W5 ⟨rfl, q5, rfl⟩
    go_wp2
    go_ret
    exact ⟨rfl, bel⟩
  · simp only [ha, hb, ↓reduceIte, decide_true, decide_false]
    clear ha hb
    go_enter Tryz.func166, Tryz.ntmps166
    go_wp2
    go_ret
    exact ⟨rfl, bel⟩
  · simp only [ha, hb, ↓reduceIte, decide_true, decide_false]
    clear ha hb
    go_enter Tryz.func166, Tryz.ntmps166
    go_wp2
    go_ret
    exact ⟨rfl, bel⟩
  · simp only [ha, hb, ↓reduceIte, decide_true, decide_false]
    clear ha hb
    go_enter Tryz.func166, Tryz.ntmps166
    go_wp2_with fail
    refine (HA.out _ bel).mono ?_
    rintro e W5 ⟨rfl, q5, rfl⟩
    go_wp2
    go_ret
    exact ⟨rfl, bel⟩
theorem store_riIs (b : Bool) (A : Option Addr) (n c : Nat) : StoreOk Tryz.prog 32 zRI (kIs (.agg #[.bool b, .slice A n c])) := ⟨by kernel_rfl, fun v W h => ⟨_, h, rfl, by simp [Value.oneCell']⟩⟩
theorem held_boxI {kl : List RK} {B : Nat} {ts : Nat → Value} {W : World} {b c k : Nat} {cs : Array Value} (h : Held kl B ts (fun _ => true) W b) (hb : rk kl b = .box 32 zRI) (h' : Held kl B ts (fun _ => true) W k) (hk : rk kl k = .put b c)
    (h2 : Held kl B ts (fun _ => true) W c) (hc : rk kl c = .val (kIs (.agg cs))) : ∃ g, ts b = .pointer (some ⟨g, 0, none⟩) ∧ B ≤ g ∧ g < W.heap.size ∧ W.heap[g]? = some (.cells cs 32 (0, 0)) := by
  have hx := held_is h2 hc
  unfold Held at h h'
  rw [hb] at h
  rw [hk] at h'
  simp only at h h'
  obtain ⟨g, h1, h3, h4, -⟩ := h
  obtain ⟨g', cs', T, z, e1, e2, e3, e4⟩ := h'
  rw [h1] at e1
  injection e1 with e1
  injection e1 with e1
  injection e1 with e1
  subst e1
  rw [hx] at e2
  injection e2 with e2
  subst e2
  rw [hb] at e3
  injection e3 with e3 _
  subst e3
  exact ⟨g, h1, h3, h4, e4⟩
theorem IsRI.nat {w : World} {v : Value} {d : Nat} (h : IsNat w v d) : IsRI w (.agg #[.bool false, v]) (d : Int) := ⟨v, by rw [show decide ((d : Int) < 0) = false by simp], by rw [Int.natAbs_natCast]; exact h⟩
set_option maxHeartbeats 2000000 in
theorem rAdd_any (v u : Value) (x y : Cx) (w : World) (h : IsQ w v x) (h' : IsQ w u y) (m n : Nat) (hx : Sz x m) (hy : Sz y n) (hm : m + n + 1 < 549755813888) :
    Calls Tryz.prog 96 #[v, u] w (RetQ w (x.add y)) := by
  obtain ⟨A1, n1, c1, p1, A1b, n1b, c1b, p1b, A1c, n1c, c1c, a1, b1, d1, rfl, hl1, hr1, hi1, hs1, hn1, hm1, hd1, hp1, hq1, -, -⟩ := h.parts
  obtain ⟨A2, n2, c2, p2, A2b, n2b, c2b, p2b, A2c, n2c, c2c, a2, b2, d2, rfl, hl2, hr2, hi2, hs2, hn2, hm2, hd2, hp2, hq2, -, -⟩ := h'.parts
  obtain ⟨s1, s3, s9⟩ := hx _ _ _ hl1
  obtain ⟨s2, s4, s10⟩ := hy _ _ _ hl2
  have e1 := wl_imul a1 d2
  have e2 := wl_imul a2 d1
  have e3 := wl_imul b1 d2
  have e4 := wl_imul b2 d1
  have e5 := wl_iadd (a1 * (d2 : Int)) (a2 * (d1 : Int))
  have e6 := wl_iadd (b1 * (d2 : Int)) (b2 * (d1 : Int))
  have e7 : wl (d1 * d2) ≤ wl d1 + wl d2 := wl_mul _ _
  have e8 := wl_inat d1
  have e9 := wl_inat d2
  have g1 : wl a1.natAbs < 549755813888 := by omega
  have g2 : wl a2.natAbs < 549755813888 := by omega
  have g3 : wl b1.natAbs < 549755813888 := by omega
  have g4 : wl b2.natAbs < 549755813888 := by omega
  have y5 : wl (a1 * (d2 : Int)).natAbs < 549755813888 := by omega
  have y6 : wl (a2 * (d1 : Int)).natAbs < 549755813888 := by omega
  have g7 : wl (b1 * (d2 : Int)).natAbs < 549755813888 := by omega
  have g8 : wl (b2 * (d1 : Int)).natAbs < 549755813888 := by omega
  have g9 : wl (d1 : Int).natAbs < 549755813888 := by omega
  have g10 : wl (d2 : Int).natAbs < 549755813888 := by omega
  have ht := add_terms hl1 hl2
  have HM := hid (fun v1 v2 v3 W (q1 : IsRI W v1 (a1 * (d2 : Int) + a2 * (d1 : Int))) (q2 : IsRI W v2 (b1 * (d2 : Int) + b2 * (d1 : Int))) (q3 : IsNat W v3 (d1 * d2)) => rMake_any v1 v2 v3 _ _ _ (x.add y) W q1 q2 q3 (Nat.mul_pos hl1.pos hl2.pos) ht.1 ht.2 (by omega) (by omega) (by omega))
  have HD := hid (IsRI.nat hs1)
  have HE := hid (IsRI.nat hs2)
  have HR1 := hid hr1
  have HI1 := hid hi1
  have HD1 := hid hs1
  have HR2 := hid hr2
  have HI2 := hid hi2
  have HD2 := hid hs2
  clear hr1 hi1 hs1 hr2 hi2 hs2 hn1 hm1 hd1 hp1 hq1 hn2 hm2 hd2 hp2 hq2 e1 e2 e3 e4 e5 e6 e7 e8 e9 ht h h' hx hy hm s1 s2 s3 s4 s9 s10 hl1 hl2
  go_enter Tryz.func96, Tryz.ntmps96
  go_upto_region 1 with fail
  obtain ⟨W1, hW1⟩ : ∃ W1 : World, W1 = ((w.alloc (.cells #[.bool p1, .slice A1 n1 c1, .bool p1b, .slice A1b n1b c1b, .slice A1c n1c c1c] 34)).alloc (.cells #[.bool p2, .slice A2 n2 c2, .bool p2b, .slice A2b n2b c2b, .slice A2c n2c c2c] 34)).alloc (.cells #[.bool false, .slice none 0 0, .bool false, .slice none 0 0, .slice none 0 0] 34) := ⟨_, rfl⟩
  rw [← hW1]
  have B1 : Below w.heap.size w W1 := by rw [hW1]; exact bel
  have X := boxes3 w (.cells #[.bool p1, .slice A1 n1 c1, .bool p1b, .slice A1b n1b c1b, .slice A1c n1c c1c] 34) (.cells #[.bool p2, .slice A2 n2 c2, .bool p2b, .slice A2b n2b c2b, .slice A2c n2c c2c] 34) (.cells #[.bool false, .slice none 0 0, .bool false, .slice none 0 0, .slice none 0 0] 34)
  rw [← hW1] at X
  obtain ⟨X0, z0, X1, z1, X2, z2⟩ := X
  clear hW1
  refine region_lin [.val (kIs (.pointer (some ⟨w.heap.size, 4, none⟩))), .val (kIs (.slice A1c n1c c1c)), .val (kIs (.agg #[.bool false, .slice A1c n1c c1c])), .val (kIs (.pointer (some ⟨w.heap.size + 1, 4, none⟩))), .val (kIs (.slice A2c n2c c2c)), .val (kIs (.agg #[.bool false, .slice A2c n2c c2c])), .box 32 zRI, .box 32 zRI, .put 6 2, .put 7 5]
    (by kernel_rfl) (by kernel_rfl) (by kernel_rfl) (by kernel_rfl) (by kernel_rfl) ⟨stab_is _, stab_is _, stab_is _, stab_is _, stab_is _, stab_is _, trivial⟩ (by simp) ⟨?_, ?_, ?_, ?_, ?_, ?_, alloc_ri, alloc_ri, store_riIs _ _ _ _, store_riIs _ _ _ _, trivial⟩ ?_
  · exact obp
  · intro ts W hb hB hp; have h0 : ts 0 = _ := hp 0 (by kernel_rfl); intro K hK; simp only [fillT, Nat.zero_add, Nat.reduceAdd, sA, sB, sC, h0] at hK ⊢; have HK := hid hK; clear hK hp; obtain ⟨f0, f1, f2, f3, f4, -, -, -, -, -⟩ := bx5 ((hb.block _ z0).trans X0); refine ⟨?_⟩; go_simp; exact HK.out _ _ rfl rfB
  · intro ts W hb hB hp; have h1 : ts 1 = _ := hp 1 (by kernel_rfl); intro K hK; simp only [fillT, Nat.zero_add, Nat.reduceAdd, sA, sB, sC, h1] at hK ⊢; have HK := hid hK; clear hK hp; refine ⟨?_⟩; go_simp; exact HK.out _ _ rfl rfB
  · exact obp
  · intro ts W hb hB hp; have h3 : ts 3 = _ := hp 3 (by kernel_rfl); intro K hK; simp only [fillT, Nat.zero_add, Nat.reduceAdd, sA, sB, sC, h3] at hK ⊢; have HK := hid hK; clear hK hp; obtain ⟨f0, f1, f2, f3, f4, -, -, -, -, -⟩ := bx5 ((hb.block _ z1).trans X1); refine ⟨?_⟩; go_simp; exact HK.out _ _ rfl rfB
  · intro ts W hb hB hp; have h4 : ts 4 = _ := hp 4 (by kernel_rfl); intro K hK; simp only [fillT, Nat.zero_add, Nat.reduceAdd, sA, sB, sC, h4] at hK ⊢; have HK := hid hK; clear hK hp; refine ⟨?_⟩; go_simp; exact HK.out _ _ rfl rfB
  intro ts W2 hb2 hh hap
  obtain ⟨g5, e5, lo5, z5, X5⟩ := held_boxI (cs := #[.bool false, .slice A1c n1c c1c]) (hh 6 (by simp)) rfl (hh 8 (by simp)) rfl (hh 2 (by simp)) rfl
  obtain ⟨g6, e6, lo6, z6, X6⟩ := held_boxI (cs := #[.bool false, .slice A2c n2c c2c]) (hh 7 (by simp)) rfl (hh 9 (by simp)) rfl (hh 5 (by simp)) rfl
  simp only [fillT, Nat.zero_add, Nat.reduceAdd, sA, sB, sC, e5, e6]
  clear hh hap e5 e6
  generalize ts 0 = u0_W2 at *
  generalize ts 1 = u1_W2 at *
  generalize ts 2 = u2_W2 at *
  generalize ts 3 = u3_W2 at *
  generalize ts 4 = u4_W2 at *
  generalize ts 5 = u5_W2 at *
  clear ts
  replace X0 := (hb2.block _ z0).trans X0
  replace z0 := Nat.lt_of_lt_of_le z0 hb2.size
  replace X1 := (hb2.block _ z1).trans X1
  replace z1 := Nat.lt_of_lt_of_le z1 hb2.size
  replace X2 := (hb2.block _ z2).trans X2
  replace z2 := Nat.lt_of_lt_of_le z2 hb2.size
  replace B1 := below_trans B1 hb2
  clear hb2
  go_upto_region 2 with fail
  refine region_last [.val (kIs (.pointer (some ⟨w.heap.size, 0, none⟩))), .val (kIs (.agg #[.bool p1, .slice A1 n1 c1])), .val (kIs (.agg #[.bool false, .slice A2c n2c c2c])), .val (kRI (a1 * (d2 : Int))), .val (kIs (.pointer (some ⟨w.heap.size + 1, 0, none⟩))), .val (kIs (.agg #[.bool p2, .slice A2 n2 c2])), .val (kIs (.agg #[.bool false, .slice A1c n1c c1c])), .val (kRI (a2 * (d1 : Int))), .val (kRI (a1 * (d2 : Int) + a2 * (d1 : Int))), .val (kIs (.pointer (some ⟨w.heap.size, 2, none⟩))), .val (kIs (.agg #[.bool p1b, .slice A1b n1b c1b])), .val (kIs (.agg #[.bool false, .slice A2c n2c c2c])), .val (kRI (b1 * (d2 : Int))), .val (kIs (.pointer (some ⟨w.heap.size + 1, 2, none⟩))), .val (kIs (.agg #[.bool p2b, .slice A2b n2b c2b])), .val (kIs (.agg #[.bool false, .slice A1c n1c c1c])), .val (kRI (b2 * (d1 : Int))), .val (kRI (b1 * (d2 : Int) + b2 * (d1 : Int))), .val (kIs (.pointer (some ⟨w.heap.size, 4, none⟩))), .val (kIs (.slice A1c n1c c1c)), .val (kIs (.pointer (some ⟨w.heap.size + 1, 4, none⟩))), .val (kIs (.slice A2c n2c c2c)), .val (kNat (d1 * d2)), .val (kQ (x.add y))]
    (by kernel_rfl) (by kernel_rfl) (by kernel_rfl) (by kernel_rfl) (by kernel_rfl) ⟨Stab.b (stab_is _), Stab.b (stab_is _), Stab.b (stab_is _), stabB_ri _, Stab.b (stab_is _), Stab.b (stab_is _), Stab.b (stab_is _), stabB_ri _, stabB_ri _, Stab.b (stab_is _), Stab.b (stab_is _), Stab.b (stab_is _), stabB_ri _, Stab.b (stab_is _), Stab.b (stab_is _), Stab.b (stab_is _), stabB_ri _, stabB_ri _, Stab.b (stab_is _), Stab.b (stab_is _), Stab.b (stab_is _), Stab.b (stab_is _), stabB_nat _, stabB_q _, trivial⟩ (by simp) (ol := _) rfl (by kernel_rfl) ⟨?_, ?_, ?_, ?_, ?_, ?_, ?_, ?_, ?_, ?_, ?_, ?_, ?_, ?_, ?_, ?_, ?_, ?_, ?_, ?_, ?_, ?_, ?_, ?_, trivial⟩ ?_
  · exact obp
  · intro ts W hb hB hp; have h0 : ts 0 = _ := hp 0 (by kernel_rfl); intro K hK; simp only [fillT, Nat.zero_add, Nat.reduceAdd, sA, sB, sC, h0] at hK ⊢; have HK := hid hK; clear hK hp; obtain ⟨f0, f1, f2, f3, f4, -, -, -, -, -⟩ := bx5 ((hb.block _ z0).trans X0); refine ⟨?_⟩; go_simp; exact HK.out _ _ rfl rfB
  · intro ts W hb hB hp; intro K hK; simp only [fillT, Nat.zero_add, Nat.reduceAdd, sA, sB, sC] at hK ⊢; have HK := hid hK; clear hK hp; obtain ⟨f0, f1, -, -⟩ := bx2 ((hb.block _ z6).trans X6); refine ⟨?_⟩; go_simp; exact HK.out _ _ rfl rfB
  · intro ts W hb hB hp; have h1 : ts 1 = _ := hp 1 (by kernel_rfl); have h2 : ts 2 = _ := hp 2 (by kernel_rfl); intro K hK; simp only [fillT, Nat.zero_add, Nat.reduceAdd, sA, sB, sC, h1, h2] at hK ⊢; have HK := hid hK; clear hK hp; refine ⟨?_⟩; go_simp; refine (rIntMul_any _ _ _ _ W (HR1.out.below (below_trans B1 hb)) (HE.out.below (below_trans B1 hb)) g1 g10).mono ?_; rintro e W9 ⟨r9, rfl, hr9, hb9⟩; exact HK.out _ _ hr9 hb9
  · exact obp
  · intro ts W hb hB hp; have h4 : ts 4 = _ := hp 4 (by kernel_rfl); intro K hK; simp only [fillT, Nat.zero_add, Nat.reduceAdd, sA, sB, sC, h4] at hK ⊢; have HK := hid hK; clear hK hp; obtain ⟨f0, f1, f2, f3, f4, -, -, -, -, -⟩ := bx5 ((hb.block _ z1).trans X1); refine ⟨?_⟩; go_simp; exact HK.out _ _ rfl rfB
  · intro ts W hb hB hp; intro K hK; simp only [fillT, Nat.zero_add, Nat.reduceAdd, sA, sB, sC] at hK ⊢; have HK := hid hK; clear hK hp; obtain ⟨f0, f1, -, -⟩ := bx2 ((hb.block _ z5).trans X5); refine ⟨?_⟩; go_simp; exact HK.out _ _ rfl rfB
  · intro ts W hb hB hp; have h5 : ts 5 = _ := hp 5 (by kernel_rfl); have h6 : ts 6 = _ := hp 6 (by kernel_rfl); intro K hK; simp only [fillT, Nat.zero_add, Nat.reduceAdd, sA, sB, sC, h5, h6] at hK ⊢; have HK := hid hK; clear hK hp; refine ⟨?_⟩; go_simp; refine (rIntMul_any _ _ _ _ W (HR2.out.below (below_trans B1 hb)) (HD.out.below (below_trans B1 hb)) g2 g9).mono ?_; rintro e W9 ⟨r9, rfl, hr9, hb9⟩; exact HK.out _ _ hr9 hb9
  · intro ts W hb hB hp; have h3 := hp 3 (by kernel_rfl); have h7 := hp 7 (by kernel_rfl); intro K hK; simp only [fillT, Nat.zero_add, Nat.reduceAdd, sA, sB, sC] at hK ⊢; have HK := hid hK; clear hK hp; refine ⟨?_⟩; go_simp; refine (rIntAdd_any _ _ _ _ W h3 h7 y5 y6).mono ?_; rintro e W9 ⟨r9, rfl, hr9, hb9⟩; exact HK.out _ _ hr9 hb9
  · exact obp
  · intro ts W hb hB hp; have h9 : ts 9 = _ := hp 9 (by kernel_rfl); intro K hK; simp only [fillT, Nat.zero_add, Nat.reduceAdd, sA, sB, sC, h9] at hK ⊢; have HK := hid hK; clear hK hp; obtain ⟨f0, f1, f2, f3, f4, -, -, -, -, -⟩ := bx5 ((hb.block _ z0).trans X0); refine ⟨?_⟩; go_simp; exact HK.out _ _ rfl rfB
  · intro ts W hb hB hp; intro K hK; simp only [fillT, Nat.zero_add, Nat.reduceAdd, sA, sB, sC] at hK ⊢; have HK := hid hK; clear hK hp; obtain ⟨f0, f1, -, -⟩ := bx2 ((hb.block _ z6).trans X6); refine ⟨?_⟩; go_simp; exact HK.out _ _ rfl rfB
  · intro ts W hb hB hp; have h10 : ts 10 = _ := hp 10 (by kernel_rfl); have h11 : ts 11 = _ := hp 11 (by kernel_rfl); intro K hK; simp only [fillT, Nat.zero_add, Nat.reduceAdd, sA, sB, sC, h10, h11] at hK ⊢; have HK := hid hK; clear hK hp; refine ⟨?_⟩; go_simp; refine (rIntMul_any _ _ _ _ W (HI1.out.below (below_trans B1 hb)) (HE.out.below (below_trans B1 hb)) g3 g10).mono ?_; rintro e W9 ⟨r9, rfl, hr9, hb9⟩; exact HK.out _ _ hr9 hb9
  · exact obp
  · intro ts W hb hB hp; have h13 : ts 13 = _ := hp 13 (by kernel_rfl); intro K hK; simp only [fillT, Nat.zero_add, Nat.reduceAdd, sA, sB, sC, h13] at hK ⊢; have HK := hid hK; clear hK hp; obtain ⟨f0, f1, f2, f3, f4, -, -, -, -, -⟩ := bx5 ((hb.block _ z1).trans X1); refine ⟨?_⟩; go_simp; exact HK.out _ _ rfl rfB
  · intro ts W hb hB hp; intro K hK; simp only [fillT, Nat.zero_add, Nat.reduceAdd, sA, sB, sC] at hK ⊢; have HK := hid hK; clear hK hp; obtain ⟨f0, f1, -, -⟩ := bx2 ((hb.block _ z5).trans X5); refine ⟨?_⟩; go_simp; exact HK.out _ _ rfl rfB
  · intro ts W hb hB hp; have h14 : ts 14 = _ := hp 14 (by kernel_rfl); have h15 : ts 15 = _ := hp 15 (by kernel_rfl); intro K hK; simp only [fillT, Nat.zero_add, Nat.reduceAdd, sA, sB, sC, h14, h15] at hK ⊢; have HK := hid hK; clear hK hp; refine ⟨?_⟩; go_simp; refine (rIntMul_any _ _ _ _ W (HI2.out.below (below_trans B1 hb)) (HD.out.below (below_trans B1 hb)) g4 g9).mono ?_; rintro e W9 ⟨r9, rfl, hr9, hb9⟩; exact HK.out _ _ hr9 hb9
  · intro ts W hb hB hp; have h12 := hp 12 (by kernel_rfl); have h16 := hp 16 (by kernel_rfl); intro K hK; simp only [fillT, Nat.zero_add, Nat.reduceAdd, sA, sB, sC] at hK ⊢; have HK := hid hK; clear hK hp; refine ⟨?_⟩; go_simp; refine (rIntAdd_any _ _ _ _ W h12 h16 g7 g8).mono ?_; rintro e W9 ⟨r9, rfl, hr9, hb9⟩; exact HK.out _ _ hr9 hb9
  · exact obp
  · intro ts W hb hB hp; have h18 : ts 18 = _ := hp 18 (by kernel_rfl); intro K hK; simp only [fillT, Nat.zero_add, Nat.reduceAdd, sA, sB, sC, h18] at hK ⊢; have HK := hid hK; clear hK hp; obtain ⟨f0, f1, f2, f3, f4, -, -, -, -, -⟩ := bx5 ((hb.block _ z0).trans X0); refine ⟨?_⟩; go_simp; exact HK.out _ _ rfl rfB
  · exact obp
  · intro ts W hb hB hp; have h20 : ts 20 = _ := hp 20 (by kernel_rfl); intro K hK; simp only [fillT, Nat.zero_add, Nat.reduceAdd, sA, sB, sC, h20] at hK ⊢; have HK := hid hK; clear hK hp; obtain ⟨f0, f1, f2, f3, f4, -, -, -, -, -⟩ := bx5 ((hb.block _ z1).trans X1); refine ⟨?_⟩; go_simp; exact HK.out _ _ rfl rfB
  · intro ts W hb hB hp; have h19 : ts 19 = _ := hp 19 (by kernel_rfl); have h21 : ts 21 = _ := hp 21 (by kernel_rfl); intro K hK; simp only [fillT, Nat.zero_add, Nat.reduceAdd, sA, sB, sC, h19, h21] at hK ⊢; have HK := hid hK; clear hK hp; refine ⟨?_⟩; go_simp; refine (rNatMul_any _ _ _ _ W (HD1.out.below (below_trans B1 hb)) (HD2.out.below (below_trans B1 hb)) g9 g10).mono ?_; rintro e W9 ⟨r9, rfl, hr9, hb9⟩; exact HK.out _ _ hr9 hb9
  · intro ts W hb hB hp; have h8 := hp 8 (by kernel_rfl); have h17 := hp 17 (by kernel_rfl); have h22 := hp 22 (by kernel_rfl); intro K hK; simp only [fillT, Nat.zero_add, Nat.reduceAdd, sA, sB, sC] at hK ⊢; have HK := hid hK; clear hK hp; refine ⟨?_⟩; go_simp; refine (HM.out _ _ _ W h8 h17 h22).mono ?_; rintro e W9 ⟨r9, rfl, hr9, hb9⟩; exact HK.out _ _ hr9 hb9
  intro ts W3 hb3 hh hap K hK
  have hq : IsQ W3 (ts 23) (x.add y) := hh 23 (by simp)
  obtain ⟨A9, n9, c9, p9, A9b, n9b, c9b, p9b, A9c, n9c, c9c, qa, qb, qd, hqe, -⟩ := hq.parts
  have Y0 := (hb3.block (w.heap.size + 2) (by omega)).trans X2
  have HK := hid hK
  clear hK
  simp only [fillT, Nat.zero_add, Nat.reduceAdd, sA, sB, sC, hqe]
  rw [hqe] at hq
  clear hh hap hqe
  refine ⟨?_⟩
  refine wp_store_row _ _ _ rfl (w.heap.size + 2) _ rfl rfl _ _ Y0 (by kernel_rfl) rfl (by simp [Value.oneCell']) (HK.out _ _ ?_)
  have hput := putAt_setRow (cs := #[.bool p9, .slice A9 n9 c9, .bool p9b, .slice A9b n9b c9b, .slice A9c n9c c9c]) Y0
  have hext := hput.ext Y0 (by decide)
  have B2 := hput.below (below_trans B1 hb3) (by omega)
  generalize W3.setRow (w.heap.size + 2) #[.bool p9, .slice A9 n9 c9, .bool p9b, .slice A9b n9b c9b, .slice A9c n9c c9c] = W4 at *
  have h5 := hq.ext hext
  obtain ⟨f0, f1, f2, f3, f4, y0, y1, y2, y3, y4⟩ := bx5 hput.here
  clear hput hext hq Y0 HK
  go_wp2
  refine bodyPost_ret (v := .agg #[.bool p9, .slice A9 n9 c9, .bool p9b, .slice A9b n9b c9b, .slice A9c n9c c9c]) (by simp [results, Tryz.results96, go_sem, f0, f1, f2, f3, f4]) rfl ?_
  exact ⟨_, rfl, h5, B2⟩
theorem rNeg_any (v : Value) (x : Cx) (w : World) (h : IsQ w v x) :
    Calls Tryz.prog 99 #[v] w (RetQ w x.neg) := by
  obtain ⟨A1, n1, c1, p1, A1b, n1b, c1b, p1b, A1c, n1c, c1c, a1, b1, d1, rfl, hl1, hr1, hi1, hs1, hn1, hm1, hd1, hp1, hq1, -, -⟩ := h.parts
  have HL := hid hl1.neg
  have HA := hid (fun W (hb : Below w.heap.size w W) => rIntNeg_any _ _ W (hr1.below hb))
  have HB := hid (fun W (hb : Below w.heap.size w W) => rIntNeg_any _ _ W (hi1.below hb))
  have HS := hid hs1
  clear hl1 hr1 hi1 hs1 h hn1 hm1 hd1 hp1 hq1
  go_enter Tryz.func99, Tryz.ntmps99
  go_wp2_with fail
  go_region_held3 (fun w' => w'.cell? ⟨w.heap.size, 0, none⟩ = some (.bool p1) ∧ w'.cell? ⟨w.heap.size, 1, none⟩ = some (.slice A1 n1 c1) ∧ w'.cell? ⟨w.heap.size, 2, none⟩ = some (.bool p1b) ∧ w'.cell? ⟨w.heap.size, 3, none⟩ = some (.slice A1b n1b c1b) ∧ w'.cell? ⟨w.heap.size, 4, none⟩ = some (.slice A1c n1c c1c)) (go_keep) (first | (go_at_call 138; (first | ((with_reducible refine (HA.out _ ?_).mono ?_); (exact bel); (rintro e W6 ⟨r6, rfl, hr6, hb6⟩; obtain ⟨A6, n6, c6, rfl, hn6, -⟩ := hr6.parts; clear hn6; generalize hq6 : decide (-a1 < 0) = q6 at *; clear hq6; obtain ⟨hc6, hf6, hz6⟩ := bcells hb6 (w.heap.size + 2) (by simp <;> omega))) | ((with_reducible refine (HB.out _ ?_).mono ?_); (exact bel); (rintro e W7 ⟨r7, rfl, hr7, hb7⟩; obtain ⟨A7, n7, c7, rfl, hn7, -⟩ := hr7.parts; clear hn7; generalize hq7 : decide (-b1 < 0) = q7 at *; clear hq7; have kb7 : Below W6.heap.size W6 W7 := bel; clear hb7; obtain ⟨hc7, hf7, hz7⟩ := bcells kb7 (w.heap.size + 2) (by omega))))))
  go_wp2
  have B6 : Below w.heap.size w W6 := bel
  have B7 := below_trans B6 kb7
  have NB : NumBox W7 (w.heap.size + 1) := NumBox.of hc7 (by omega) (NumBox.of hc6 (g := w.heap.size + 1) (by omega) (.nilQ (by simp [go_sem]) (by simp [go_sem]) (by simp [go_sem]) (by simp [go_sem]) (by simp [go_sem])))
  refine bodyPost_ret (v := .agg #[.bool q6, .slice A6 n6 c6, .bool q7, .slice A7 n7 c7, .slice A1c n1c c1c]) (by simp [results, Tryz.results99]; exact run_loadQ NB _ _ _ _ _) rfl ?_
  exact RetQ.box B7 (by omega) NB (.mk HL.out (hr6.below kb7) hr7 (HS.out.below B7)) _ _ _ _ _
theorem rConj_any (v : Value) (x : Cx) (w : World) (h : IsQ w v x) :
    Calls Tryz.prog 144 #[v] w (RetQ w x.conj) := by
  obtain ⟨A1, n1, c1, p1, A1b, n1b, c1b, p1b, A1c, n1c, c1c, a1, b1, d1, rfl, hl1, hr1, hi1, hs1, hn1, hm1, hd1, hp1, hq1, -, -⟩ := h.parts
  have HL := hid hl1.conj
  have HB := hid (fun W (hb : Below w.heap.size w W) => rIntNeg_any _ _ W (hi1.below hb))
  have HS := hid hs1
  have HR := hid hr1
  clear hl1 hr1 hi1 hs1 h hn1 hm1 hd1 hp1 hq1
  go_enter Tryz.func144, Tryz.ntmps144
  go_wp2_with fail
  go_region_held3 (fun w' => w'.cell? ⟨w.heap.size, 0, none⟩ = some (.bool p1) ∧ w'.cell? ⟨w.heap.size, 1, none⟩ = some (.slice A1 n1 c1) ∧ w'.cell? ⟨w.heap.size, 2, none⟩ = some (.bool p1b) ∧ w'.cell? ⟨w.heap.size, 3, none⟩ = some (.slice A1b n1b c1b) ∧ w'.cell? ⟨w.heap.size, 4, none⟩ = some (.slice A1c n1c c1c)) (go_keep) (first | (go_at_call 138; ((with_reducible refine (HB.out _ ?_).mono ?_); (exact bel); (rintro e W7 ⟨r7, rfl, hr7, hb7⟩; obtain ⟨A7, n7, c7, rfl, hn7, -⟩ := hr7.parts; clear hn7; generalize hq7 : decide (-b1 < 0) = q7 at *; clear hq7; obtain ⟨hc7, hf7, hz7⟩ := bcells hb7 (w.heap.size + 2) (by simp <;> omega)))))
  go_wp2
  have B7 : Below w.heap.size w W7 := bel
  have NB : NumBox W7 (w.heap.size + 1) := NumBox.of hc7 (g := w.heap.size + 1) (by omega) (.nilQ (by simp [go_sem]) (by simp [go_sem]) (by simp [go_sem]) (by simp [go_sem]) (by simp [go_sem]))
  refine bodyPost_ret (v := .agg #[.bool p1, .slice A1 n1 c1, .bool q7, .slice A7 n7 c7, .slice A1c n1c c1c]) (by simp [results, Tryz.results144]; exact run_loadQ NB _ _ _ _ _) rfl ?_
  exact RetQ.box B7 (by omega) NB (.mk HL.out (HR.out.below B7) hr7 (HS.out.below B7)) _ _ _ _ _
theorem rRe_any (v : Value) (x : Cx) (w : World) (h : IsQ w v x) (m : Nat) (hx : Sz x m) (hm : m < 549755813888) :
    Calls Tryz.prog 97 #[v] w (RetQ w x.real) := by
  obtain ⟨A1, n1, c1, p1, A1b, n1b, c1b, p1b, A1c, n1c, c1c, a1, b1, d1, rfl, hl1, hr1, hi1, hs1, hn1, hm1, hd1, hp1, hq1, -, -⟩ := h.parts
  obtain ⟨s1, s2, s3⟩ := hx _ _ _ hl1
  have ht := real_terms hl1
  have HM := hid (fun W (hb : Below w.heap.size w W) => rMake_any _ _ _ _ 0 _ x.real W (hr1.below hb) (IsRI.zero W none 0) (hs1.below hb) hl1.pos ht.1 ht.2 (by omega) (by simp [wl_zero]) (by omega))
  clear hl1 hr1 hi1 hs1 h hn1 hm1 hd1 hp1 hq1 hx hm s1 s2 s3 ht
  go_enter Tryz.func97, Tryz.ntmps97
  go_wp2_with fail
  refine (HM.out _ bel).mono ?_
  rintro e W5 ⟨r, rfl, hr5, hb5⟩
  obtain ⟨hc5, hf5, hz5⟩ := bcells hb5 (w.heap.size + 2) (by simp)
  obtain ⟨A4, n4, c4, p4, A5, n5, c5, p5, A6, n6, c6, a', b', d', rfl, -⟩ := hr5.parts
  go_wp2
  have NB : NumBox W5 (w.heap.size + 1) := NumBox.of hc5 (by omega) (.nilQ (by simp [go_sem]) (by simp [go_sem]) (by simp [go_sem]) (by simp [go_sem]) (by simp [go_sem]))
  refine bodyPost_ret (v := .agg #[.bool p4, .slice A4 n4 c4, .bool p5, .slice A5 n5 c5, .slice A6 n6 c6]) (by simp [results, Tryz.results97]; exact run_loadQ NB _ _ _ _ _) rfl ?_
  exact RetQ.box bel (by omega) NB hr5 _ _ _ _ _
theorem rZero_any (v : Value) (x : Cx) (w : World) (h : IsQ w v x) :
    Calls Tryz.prog 92 #[v] w fun e w' => e = .returned (.bool (decide (x = .zero))) ∧ Below w.heap.size w w' := by
  obtain ⟨A1, n1, c1, p1, A1b, n1b, c1b, p1b, A1c, n1c, c1c, a1, b1, d1, rfl, hl1, hr1, hi1, hs1, hn1, hm1, hd1, hp1, hq1, -, -⟩ := h.parts
  have hd : decide (x = .zero) = (decide (n1 = 0) && decide (n1b = 0)) := by
    rw [Bool.eq_iff_iff]
    simp only [decide_eq_true_eq, Bool.and_eq_true, hl1.clear, hn1, hm1, wl_eq_zero]
    omega
  rw [hd]
  clear hl1 hr1 hi1 hs1 h hn1 hm1 hd1 hp1 hq1 hd
  by_cases k1 : n1 = 0 <;> by_cases k2 : n1b = 0
  all_goals
    try subst k1
    try subst k2
    go_enter Tryz.func92, Tryz.ntmps92
    go_wp2
    go_ret
    exact ⟨by simp [*], bel⟩
set_option maxHeartbeats 1000000 in
theorem rSub_any (v u : Value) (x y : Cx) (w : World) (h : IsQ w v x) (h' : IsQ w u y) (m n : Nat) (hx : Sz x m) (hy : Sz y n) (hm : m + n + 1 < 549755813888) :
    Calls Tryz.prog 98 #[v, u] w (RetQ w (x.sub y)) := by
  have HA := hid (fun W (hb : Below w.heap.size w W) => rNeg_any _ y W (h'.below hb))
  have HS := hid (fun v' W (hb : Below w.heap.size w W) (hv : IsQ W v' y.neg) => rAdd_any v v' x y.neg W (h.below hb) hv m n hx hy.neg hm)
  rw [show x.add y.neg = x.sub y by apply Cx.ext <;> simp [Cx.add, Cx.neg, Cx.sub] <;> grind] at HS
  obtain ⟨A1, n1, c1, p1, A1b, n1b, c1b, p1b, A1c, n1c, c1c, a1, b1, d1, rfl, hl1, hr1, hi1, hs1, hn1, hm1, hd1, hp1, hq1, -, -⟩ := h.parts
  obtain ⟨A2, n2, c2, p2, A2b, n2b, c2b, p2b, A2c, n2c, c2c, a2, b2, d2, rfl, hl2, hr2, hi2, hs2, hn2, hm2, hd2, hp2, hq2, -, -⟩ := h'.parts
  clear hl1 hr1 hi1 hs1 h hn1 hm1 hd1 hp1 hq1 hl2 hr2 hi2 hs2 h' hn2 hm2 hd2 hp2 hq2 hx hy hm
  have hne1 : ¬ (w.heap.size + 1 + 1 = w.heap.size) := by omega
  have hne2 : ¬ (w.heap.size = w.heap.size + 1 + 1) := by omega
  go_enter Tryz.func98, Tryz.ntmps98
  go_wp2_with fail
  go_region_held3 (fun w' => w'.cell? ⟨w.heap.size, 0, none⟩ = some (.bool p1) ∧ w'.cell? ⟨w.heap.size, 1, none⟩ = some (.slice A1 n1 c1) ∧ w'.cell? ⟨w.heap.size, 2, none⟩ = some (.bool p1b) ∧ w'.cell? ⟨w.heap.size, 3, none⟩ = some (.slice A1b n1b c1b) ∧ w'.cell? ⟨w.heap.size, 4, none⟩ = some (.slice A1c n1c c1c) ∧ w'.cell? ⟨w.heap.size + 1, 0, none⟩ = some (.bool p2) ∧ w'.cell? ⟨w.heap.size + 1, 1, none⟩ = some (.slice A2 n2 c2) ∧ w'.cell? ⟨w.heap.size + 1, 2, none⟩ = some (.bool p2b) ∧ w'.cell? ⟨w.heap.size + 1, 3, none⟩ = some (.slice A2b n2b c2b) ∧ w'.cell? ⟨w.heap.size + 1, 4, none⟩ = some (.slice A2c n2c c2c)) (go_keep) (first | (go_at_call 99; ((with_reducible refine (HA.out _ ?_).mono ?_); (exact bel); (rintro e W6 ⟨r6, rfl, hr6, hb6⟩; obtain ⟨A6, n6, c6, p6, A6b, n6b, c6b, p6b, A6c, n6c, c6c, a6, b6, d6, rfl, -⟩ := hr6.parts; obtain ⟨hc6, hf6, hz6⟩ := bcells hb6 (w.heap.size + 3) (by simp <;> omega)))) | (go_at_call 96; ((with_reducible refine (HS.out _ _ ?_ (hr6.below bel)).mono ?_); (exact bel); (rintro e W7 ⟨r7, rfl, hr7, hb7⟩; obtain ⟨A7, n7, c7, p7, A7b, n7b, c7b, p7b, A7c, n7c, c7c, a7, b7, d7, rfl, -⟩ := hr7.parts; have kb7 : Below W6.heap.size W6 W7 := bel; clear hb7; obtain ⟨hc7, hf7, hz7⟩ := bcells kb7 (w.heap.size + 3) (by omega)))))
  go_wp2
  have B6 : Below w.heap.size w W6 := bel
  have B7 := below_trans B6 kb7
  have NB : NumBox W7 (w.heap.size + 2) := NumBox.of hc7 (by omega) (NumBox.of hc6 (g := w.heap.size + 2) (by omega) (.nilQ (by simp [go_sem]) (by simp [go_sem]) (by simp [go_sem]) (by simp [go_sem]) (by simp [go_sem])))
  refine bodyPost_ret (v := .agg #[.bool p7, .slice A7 n7 c7, .bool p7b, .slice A7b n7b c7b, .slice A7c n7c c7c]) (by simp [results, Tryz.results98]; exact run_loadQ NB _ _ _ _ _) rfl ?_
  exact RetQ.box B7 (by omega) NB hr7 _ _ _ _ _
set_option maxHeartbeats 1000000 in
theorem rNorm_any (v : Value) (x : Cx) (w : World) (h : IsQ w v x) (m : Nat) (hx : Sz x m) (hm : m + m + 1 < 549755813888) :
    Calls Tryz.prog 94 #[v] w (RetQ w x.norm) := by
  have HA := hid (fun W (hb : Below w.heap.size w W) => rConj_any _ x W (h.below hb))
  have HS := hid (fun v' W (hb : Below w.heap.size w W) (hv : IsQ W v' x.conj) => rMul_any v v' x x.conj W (h.below hb) hv m m hx hx.conj hm)
  rw [show x.mul x.conj = x.norm by apply Cx.ext <;> simp [Cx.mul, Cx.conj, Cx.norm, Cx.nrm] <;> grind] at HS
  obtain ⟨A1, n1, c1, p1, A1b, n1b, c1b, p1b, A1c, n1c, c1c, a1, b1, d1, rfl, hl1, hr1, hi1, hs1, hn1, hm1, hd1, hp1, hq1, -, -⟩ := h.parts
  clear hl1 hr1 hi1 hs1 h hn1 hm1 hd1 hp1 hq1 hx hm
  go_enter Tryz.func94, Tryz.ntmps94
  go_wp2_with fail
  go_region_held3 (fun w' => w'.cell? ⟨w.heap.size, 0, none⟩ = some (.bool p1) ∧ w'.cell? ⟨w.heap.size, 1, none⟩ = some (.slice A1 n1 c1) ∧ w'.cell? ⟨w.heap.size, 2, none⟩ = some (.bool p1b) ∧ w'.cell? ⟨w.heap.size, 3, none⟩ = some (.slice A1b n1b c1b) ∧ w'.cell? ⟨w.heap.size, 4, none⟩ = some (.slice A1c n1c c1c)) (go_keep) (first | (go_at_call 144; ((with_reducible refine (HA.out _ ?_).mono ?_); (exact bel); (rintro e W6 ⟨r6, rfl, hr6, hb6⟩; obtain ⟨A6, n6, c6, p6, A6b, n6b, c6b, p6b, A6c, n6c, c6c, a6, b6, d6, rfl, -⟩ := hr6.parts; obtain ⟨hc6, hf6, hz6⟩ := bcells hb6 (w.heap.size + 2) (by simp <;> omega)))) | (go_at_call 35; ((with_reducible refine (HS.out _ _ ?_ (hr6.below bel)).mono ?_); (exact bel); (rintro e W7 ⟨r7, rfl, hr7, hb7⟩; obtain ⟨A7, n7, c7, p7, A7b, n7b, c7b, p7b, A7c, n7c, c7c, a7, b7, d7, rfl, -⟩ := hr7.parts; have kb7 : Below W6.heap.size W6 W7 := bel; clear hb7; obtain ⟨hc7, hf7, hz7⟩ := bcells kb7 (w.heap.size + 2) (by omega)))))
  go_wp2
  have B6 : Below w.heap.size w W6 := bel
  have B7 := below_trans B6 kb7
  have NB : NumBox W7 (w.heap.size + 1) := NumBox.of hc7 (by omega) (NumBox.of hc6 (g := w.heap.size + 1) (by omega) (.nilQ (by simp [go_sem]) (by simp [go_sem]) (by simp [go_sem]) (by simp [go_sem]) (by simp [go_sem])))
  refine bodyPost_ret (v := .agg #[.bool p7, .slice A7 n7 c7, .bool p7b, .slice A7b n7b c7b, .slice A7c n7c c7c]) (by simp [results, Tryz.results94]; exact run_loadQ NB _ _ _ _ _) rfl ?_
  exact RetQ.box B7 (by omega) NB hr7 _ _ _ _ _
theorem rcmpI_zero (a b : Int) : ((if a < b then (-1 : Int) else if a = b then 0 else 1) = 0) ↔ a = b := by
  constructor
  · intro h; split at h
    · simp at h
    · split at h
      · assumption
      · simp at h
  · rintro rfl; simp
theorem rcmpN_zero (a b : Nat) : cmpN a b = 0 ↔ a = b := by
  unfold cmpN
  constructor
  · intro h; split at h
    · simp at h
    · split at h
      · assumption
      · simp at h
  · rintro rfl; simp
theorem rSame_any (v u : Value) (x y : Cx) (w : World) (h : IsQ w v x) (h' : IsQ w u y) (m : Nat) (hx : Sz x m) (hy : Sz y m) (hm : m < 549755813888) :
    Calls Tryz.prog 143 #[v, u] w fun e w' => e = .returned (.bool (decide (x = y))) ∧ Below w.heap.size w w' := by
  obtain ⟨A1, n1, c1, p1, A1b, n1b, c1b, p1b, A1c, n1c, c1c, a1, b1, d1, rfl, hl1, hr1, hi1, hs1, hn1, hm1, hd1, hp1, hq1, -, -⟩ := h.parts
  obtain ⟨A2, n2, c2, p2, A2b, n2b, c2b, p2b, A2c, n2c, c2c, a2, b2, d2, rfl, hl2, hr2, hi2, hs2, hn2, hm2, hd2, hp2, hq2, -, -⟩ := h'.parts
  obtain ⟨s1, s2, s3⟩ := hx _ _ _ hl1
  obtain ⟨s4, s5, s6⟩ := hy _ _ _ hl2
  have hxy : x = y ↔ a1 = a2 ∧ b1 = b2 ∧ d1 = d2 := by
    constructor
    · rintro rfl; exact hl1.uniq hl2
    · rintro ⟨rfl, rfl, rfl⟩; exact hl1.eq hl2
  have H1 := hid (fun W (hb : Below w.heap.size w W) => rIntCmp_any _ _ a1 a2 W (hr1.below hb) (hr2.below hb) (by omega) (by omega))
  have H2 := hid (fun W (hb : Below w.heap.size w W) => rIntCmp_any _ _ b1 b2 W (hi1.below hb) (hi2.below hb) (by omega) (by omega))
  have H3 := hid (fun W (hb : Below w.heap.size w W) => rNatCmp_any _ _ d1 d2 W (hs1.below hb) (hs2.below hb) (by omega) (by omega))
  have k1 := rcmpI_zero a1 a2
  have k2 := rcmpI_zero b1 b2
  have k3 := rcmpN_zero d1 d2
  generalize (if a1 < a2 then (-1 : Int) else if a1 = a2 then 0 else 1) = m1 at *
  generalize (if b1 < b2 then (-1 : Int) else if b1 = b2 then 0 else 1) = m2 at *
  generalize cmpN d1 d2 = m3 at *
  have hd : decide (x = y) = (decide (m1 = 0) && (decide (m2 = 0) && decide (m3 = 0))) := by
    rw [Bool.eq_iff_iff]
    simp only [decide_eq_true_eq, Bool.and_eq_true, hxy, k1, k2, k3]
  have HD := hid hd
  clear hl1 hr1 hi1 hs1 h hn1 hm1 hd1 hp1 hq1 hl2 hr2 hi2 hs2 h' hn2 hm2 hd2 hp2 hq2 hx hy hm k1 k2 k3 hxy hd s1 s2 s3 s4 s5 s6
  go_enter Tryz.func143, Tryz.ntmps143
  go_wp2_with fail
  refine (H1.out _ bel).mono ?_
  rintro e W5 ⟨rfl, hb5⟩
  obtain ⟨hc5, hf5, hz5⟩ := bcells hb5 (w.heap.size + 2) (by simp)
  have B5 : Below w.heap.size w W5 := bel
  by_cases q1 : m1 = 0
  · go_wp2_with fail
    refine (H2.out _ B5).mono ?_
    rintro e W6 ⟨rfl, hb6⟩
    obtain ⟨hc6, hf6, hz6⟩ := bcells hb6 (w.heap.size + 2) (by omega)
    have B6 := below_trans B5 hb6
    by_cases q2 : m2 = 0
    · go_wp2_with fail
      refine (H3.out _ B6).mono ?_
      rintro e W7 ⟨rfl, q7, rfl⟩
      by_cases q3 : m3 = 0
      all_goals
        go_wp2
        go_ret
        exact ⟨by rw [HD.out]; simp [q1, q2, q3], bel⟩
    · go_wp2
      go_ret
      exact ⟨by rw [HD.out]; simp [q1, q2], B6⟩
  · go_wp2
    go_ret
    exact ⟨by rw [HD.out]; simp [q1], B5⟩
section
variable {P : Program} {ops : Array Oper} {a0 : Act}
def kAny (kl : List (Value → World → Prop)) (i : Nat) : Value → World → Prop := kl.getD i fun _ _ => True
def pRet (kl : List (Value → World → Prop)) (st : Nat) (F : World → Prop) (i : Nat) (v : Value) (W : World) : Prop := if i = st then F W else kAny kl i v W
def mRet (st : Nat) (E : World → Prop) (i : Nat) (W : World) : Prop := if i = st then E W else True
def rRet (st g : Nat) (i : Nat) (W W' : World) : Prop := if i = st then But W W' g ∧ Ext W W' else Below W.heap.size W W'
def allStab : List (Value → World → Prop) → Prop
  | [] => True
  | p :: ps => Stab p ∧ allStab ps
theorem allStab.at : ∀ {kl : List (Value → World → Prop)} (_ : allStab kl) (i : Nat), Stab (kAny kl i)
  | [], _, _ => fun _ _ _ _ _ => trivial
  | _ :: _, h, 0 => h.1
  | _ :: _, h, i + 1 => h.2.at i
theorem rRet.ext {st g i : Nat} {W W' : World} (h : rRet st g i W W') : Ext W W' := by
  unfold rRet at h
  split at h
  · exact h.2
  · exact Ext.of_below h
theorem region_ret {id : Nat} {dr : Bool} {w : World} {Q : Exit → Act → World → Prop} (kl : List (Value → World → Prop)) (st g : Nat) (I E F : World → Prop) (fl : (Nat → Value) → Array Value) (hfl : ∀ ts, fillT ts ops.toList 0 a0.tmps = fl ts)
    (hm : P.follows .mixedOrders = true) (hb : backB ops = true) (hd : dstB ops a0.tmps.size = true) (hl : looksB ops = true) (hg : (ops.toList.all fun o => o.guard.isNone) = true)
    (hk : allStab kl) (hI : ∀ W W', Below W.heap.size W W' → I W → I W') (hI2 : ∀ W W', But W W' g → Ext W W' → I W → I W') (hE : ∀ W W', Below W.heap.size W W' → E W → E W') (hF : ∀ W W', Below W.heap.size W W' → F W → F W')
    (h0 : I w) (h1 : E w)
    (hob : AllFreeL P ops fl a0.defers I (pRet kl st F) (mRet st E) (rRet st g) ops.toList 0)
    (fin : ∀ (ts : Nat → Value) (W : World), I W → (∀ i, i < ops.size → pRet kl st F i (ts i) W) → Q .normal ⟨fl ts, a0.defers⟩ W) :
    (Code.region id ops dr).wp P Q a0 w := by
  refine region_freeL I (pRet kl st F) (mRet st E) (rRet st g) fl hfl hm hb hd hl hg (fun W hW => ?_) (fun i j v W W' hij _ _ hr hp => ?_) (fun i j W W' hij _ _ hr hp => ?_) (fun i W W' hr hi => ?_) hob fin
  · have hB : Below w.heap.size w W := by
      rcases hW with rfl | rfl
      · exact Below.refl _ _
      · exact ⟨rfl, rfl, rfl, Nat.le_refl _, fun _ _ => rfl⟩
    exact ⟨hI _ _ hB h0, fun i => by unfold mRet; split; exact hE _ _ hB h1; trivial⟩
  · unfold pRet at hp ⊢
    split
    · rename_i e
      rw [if_pos e] at hp
      unfold rRet at hr
      rw [if_neg (fun c => hij (c.trans e.symm))] at hr
      exact hF _ _ hr hp
    · rename_i e
      rw [if_neg e] at hp
      exact hk.at j v W W' hr.ext hp
  · unfold mRet at hp ⊢
    split
    · rename_i e
      rw [if_pos e] at hp
      unfold rRet at hr
      rw [if_neg (fun c => hij (c.trans e.symm))] at hr
      exact hE _ _ hr hp
    · trivial
  · unfold rRet at hr
    split at hr
    · exact hI2 _ _ hr.1 hr.2 hi
    · exact hI _ _ hr hi
variable {fl : (Nat → Value) → Array Value} {df : List Deferred} {I E F : World → Prop} {kl : List (Value → World → Prop)} {st g : Nat} {o : Oper} {i : Nat}
theorem free_val (hi : i ≠ st) (h : ∀ (ts : Nat → Value) (W : World), I W → (∀ j, predB ops i j = true → pRet kl st F j (ts j) W) → ∀ K : Act → World → Prop, (∀ v W', kAny kl i v W' → Below W.heap.size W W' → K (Act.put ⟨fl ts, df⟩ o.dst v) W') → Goes (Oper.wp P o ⟨fl ts, df⟩ W K (fun _ _ _ => False))) :
    FreeObL P ops fl df I (pRet kl st F) (mRet st E) (rRet st g) o i := fun ts W hI _ hp K hK =>
  h ts W hI hp K fun v W' h1 h2 => hK v W' (by unfold pRet; rw [if_neg hi]; exact h1) (by unfold rRet; rw [if_neg hi]; exact h2)
theorem free_put (h : ∀ (ts : Nat → Value) (W : World), I W → E W → (∀ j, predB ops st j = true → pRet kl st F j (ts j) W) → ∀ K : Act → World → Prop, (∀ v W', F W' → But W W' g → Ext W W' → K (Act.put ⟨fl ts, df⟩ o.dst v) W') → Goes (Oper.wp P o ⟨fl ts, df⟩ W K (fun _ _ _ => False))) :
    FreeObL P ops fl df I (pRet kl st F) (mRet st E) (rRet st g) o st := fun ts W hI hm hp K hK =>
  h ts W hI (by unfold mRet at hm; rw [if_pos rfl] at hm; exact hm) hp K fun v W' h1 h2 h3 => hK v W' (by unfold pRet; rw [if_pos rfl]; exact h1) (by unfold rRet; rw [if_pos rfl]; exact ⟨h2, h3⟩)
end
theorem NBlk.one {W : World} {g : Nat} {A B C : Option Addr} {p q : Bool} {na ca nb cb nc cc : Nat} {x : Cx} (h : W.heap[g]? = some (.cells #[.slice A na ca, .bool p, .slice B nb cb, .bool q, .slice C nc cc] 30 (0, 0))) (hx : IsNum W (.agg #[.slice A na ca, .bool p, .slice B nb cb, .bool q, .slice C nc cc]) x) :
    NBlk W g 1 (fun _ => x) := ⟨_, h, rfl, by simp [Value.oneCell'], fun j hj => by
  obtain rfl : j = 0 := by omega
  exact ⟨_, _, _, _, _, _, _, _, _, _, _, rfl, rfl, rfl, rfl, rfl, hx⟩⟩
theorem QBlk.one {W : World} {g : Nat} {A B C : Option Addr} {p q : Bool} {na ca nb cb nc cc : Nat} {V : Nat → Prop} {x : Cx} (h : W.heap[g]? = some (.cells #[.bool p, .slice A na ca, .bool q, .slice B nb cb, .slice C nc cc] 34 (0, 0))) (hx : V 0 → IsQ W (.agg #[.bool p, .slice A na ca, .bool q, .slice B nb cb, .slice C nc cc]) x) :
    QBlk W g 1 V (fun _ => x) := ⟨_, h, rfl, by simp [Value.oneCell'], fun j hj => by
  obtain rfl : j = 0 := by omega
  exact ⟨_, _, _, _, _, _, _, _, _, _, _, rfl, rfl, rfl, rfl, rfl, hx⟩⟩
def kRoot (s : Nat) (ok : Bool) : Value → World → Prop := fun v W => ∃ u, v = .tuple #[u, .bool ok] ∧ IsNat W u s
theorem stabB_root (s : Nat) (ok : Bool) : StabB (kRoot s ok) := fun _ _ _ hb ⟨u, e, h⟩ => ⟨u, e, h.below hb⟩
def kNumE (x : Cx) (k : Int) : Value → World → Prop := fun v W => ∃ u, v = .tuple #[u, .int .i64 k] ∧ IsNum W u x
theorem stab_nume (x : Cx) (k : Int) : Stab (kNumE x k) := fun _ _ _ he ⟨u, e, h⟩ => ⟨u, e, h.ext he⟩
def RetRt (w : World) (q : Rat) (e : Ending) (w' : World) : Prop :=
  ∃ v ok y, e = .returned (.tuple #[v, .bool ok]) ∧ IsNum w' v y ∧ Below w.heap.size w w' ∧ ((ok = true ∧ IsRoot y.re q ∧ y.im = 0) ∨ (ok = false ∧ y = .zero ∧ ¬ ∃ r : Rat, r * r = q))
theorem RetRt.box {w W : World} {v : Value} {y : Cx} {q : Rat} {ok : Bool} {g : Nat} (hb : Below w.heap.size w W) (hg : w.heap.size ≤ g) (hB : NumBox W g) (h : IsNum W v y)
    (hq : (ok = true ∧ IsRoot y.re q ∧ y.im = 0) ∨ (ok = false ∧ y = .zero ∧ ¬ ∃ r : Rat, r * r = q)) (v0 v1 v2 v3 v4 : Value) :
    RetRt w q (.returned (.tuple #[v, .bool ok])) (((((W.setCell ⟨g, 0, none⟩ v0).setCell ⟨g, 1, none⟩ v1).setCell ⟨g, 2, none⟩ v2).setCell ⟨g, 3, none⟩ v3).setCell ⟨g, 4, none⟩ v4) :=
  ⟨v, ok, y, rfl, h.box5 hB _ _ _ _ _, below_box5 hb hg _ _ _ _ _, hq⟩
theorem real_parts {x : Cx} {a b : Int} {d : Nat} (hl : Low x a b d) (h0 : 0 ≤ x.re) (hi : x.im = 0) :
    Nat.gcd a.natAbs d = 1 ∧ x.re * (d : Rat) = (a.natAbs : Rat) := by
  obtain ⟨hd, hg, h1, h2⟩ := hl
  have hb : b = 0 := by
    rw [hi, Rat.zero_mul] at h2
    exact (Rat.intCast_inj.1 (by simpa using h2)).symm
  subst hb
  have ha : 0 ≤ a := by
    have : (0 : Rat) ≤ (a : Rat) := by rw [← h1]; exact Rat.mul_nonneg h0 Rat.natCast_nonneg
    exact Rat.intCast_nonneg.1 this
  refine ⟨?_, ?_⟩
  · rw [Nat.gcd_comm]
    simpa using hg
  · rw [h1, ← Rat.intCast_natCast, Int.natAbs_of_nonneg ha]
theorem realRoot_any (v : Value) (x : Cx) (w : World) (h : IsNum w v x) (hT : Tab w) (m : Nat) (hx : Sz x m) (hm : m < 4294967296) (h0 : 0 ≤ x.re) (him : x.im = 0) :
    Calls Tryz.prog 90 #[v] w (RetRt w x.re) := by
  have HI := hid h
  obtain ⟨A1, n1, c1, p1, A2, n2, c2, p2, A3, n3, c3, a, b, d, rfl, hl, hr, hi, hs, -, -, -, -, -⟩ := h.parts
  have hsz := hx _ _ _ hl
  obtain ⟨hg, hq⟩ := real_parts hl h0 him
  have hd := hl.1
  have hnat : IsNat w (.slice A1 n1 c1) a.natAbs := by
    obtain ⟨u, e1, k⟩ := hr
    simp at e1
    rw [e1.1]
    exact k
  obtain ⟨s, hs1⟩ := IsRt.ex a.natAbs
  obtain ⟨t, ht1⟩ := IsRt.ex d
  have hws : wl s ≤ wl a.natAbs := wl_mono hs1.le_self
  have hwt : wl t ≤ wl d := wl_mono ht1.le_self
  have HN := hid (fun W (hb : Below w.heap.size w W) => squareRoot_any (.slice A1 n1 c1) a.natAbs s W (hnat.below hb) hs1 (by omega))
  have HD := hid (fun W (hb : Below w.heap.size w W) => denominator_any _ x W (h.below hb) a b d hl)
  have HD2 := hid (fun u W (hu : IsNat W u d) => squareRoot_any u d t W hu ht1 (by omega))
  by_cases k1 : s * s = a.natAbs
  · rw [decide_eq_true k1] at HN
    by_cases k2 : t * t = d
    · have HY := hid (root_yes hd hq k1 k2)
      have ht0 := HY.out.2
      rw [decide_eq_true k2] at HD2
      have HL := hid (fun u u' W (hu : IsNat W u s) (hu' : IsNat W u' t) (hb : Below w.heap.size w W) => lowest_any (.agg #[u, .bool false]) (.agg #[.slice none 0 0, .bool false]) u' (s : Int) 0 t t ⟨(s : Rat) / (t : Rat), 0⟩ W ⟨u, by simp, by simpa using hu⟩ (IsInt.zero _ _ _) hu' (Den.self ht0)
        (by rw [Rat.intCast_natCast]; exact Rat.div_mul_cancel (natCast_ne ht0)) (by simp) (by simp; omega) (by simp [wl_zero]) (by omega) (hT.below hb))
      clear hl hr hi hs h hx hm hsz hT hg hq hd hnat hs1 ht1 hws hwt k1 k2 h0 him ht0
      go_enter Tryz.func90, Tryz.ntmps90
      go_wp2_with fail
      refine (HN.out _ bel).mono ?_
      rintro e W1 ⟨u1, rfl, hu1, hb1⟩
      obtain ⟨hc1, hf1, hz1⟩ := bcells hb1 (w.heap.size + 2) (by simp)
      have HU1 := hid hu1
      obtain ⟨A7, n7, c7, rfl, -⟩ := hu1.ex
      clear hu1
      go_wp2_with fail
      refine (HD.out _ bel).mono ?_
      rintro e W2 ⟨u2, rfl, hu2, hb2⟩
      obtain ⟨hc2, hf2, hz2⟩ := bcells hb2 (w.heap.size + 2) (by omega)
      have HU2 := hid hu2
      clear hu2
      go_wp2_with fail
      refine (HD2.out _ _ HU2.out).mono ?_
      rintro e W3 ⟨u3, rfl, hu3, hb3⟩
      obtain ⟨hc3, hf3, hz3⟩ := bcells hb3 (w.heap.size + 2) (by omega)
      have HU3 := hid hu3
      clear hu3
      go_wp2_with fail
      refine (HL.out _ _ _ (HU1.out.below (below_trans hb2 hb3)) HU3.out bel).mono ?_
      rintro e W4 ⟨v4, rfl, hr4, hb4⟩
      obtain ⟨hc4, hf4, hz4⟩ := bcells hb4 (w.heap.size + 2) (by omega)
      have B4 : Below w.heap.size w W4 := bel
      obtain ⟨A4, n4, c4, p4, A5, n5, c5, p5, A6, n6, c6, a', b', d', rfl, -⟩ := hr4.parts
      have HR4 := hid hr4
      clear hr4
      go_wp2
      have NB : NumBox W4 (w.heap.size + 1) := NumBox.of hc4 (by omega) (NumBox.of hc3 (by omega) (NumBox.of hc2 (by omega) (NumBox.of hc1 (by omega) (.nil (by simp [go_sem]) (by simp [go_sem]) (by simp [go_sem]) (by simp [go_sem]) (by simp [go_sem])))))
      refine bodyPost_ret (v := .tuple #[.agg #[.slice A4 n4 c4, .bool p4, .slice A5 n5 c5, .bool p5, .slice A6 n6 c6], .bool true]) (by simp [results, Tryz.results90]; exact run_load5e NB _ _ _ _ _ _) rfl ?_
      exact RetRt.box B4 (by omega) NB HR4.out (.inl ⟨rfl, HY.out.1, rfl⟩) _ _ _ _ _
    · have HNO := hid (root_no hg hq hs1 ht1 (fun c => k2 c.2))
      rw [decide_eq_false k2] at HD2
      clear hl hr hi hs h hx hm hsz hT hg hq hd hnat hs1 ht1 hws hwt k1 k2 h0 him
      go_enter Tryz.func90, Tryz.ntmps90
      go_wp2_with fail
      refine (HN.out _ bel).mono ?_
      rintro e W1 ⟨u1, rfl, hu1, hb1⟩
      obtain ⟨hc1, hf1, hz1⟩ := bcells hb1 (w.heap.size + 2) (by simp)
      clear hu1
      go_wp2_with fail
      refine (HD.out _ bel).mono ?_
      rintro e W2 ⟨u2, rfl, hu2, hb2⟩
      obtain ⟨hc2, hf2, hz2⟩ := bcells hb2 (w.heap.size + 2) (by omega)
      have HU2 := hid hu2
      clear hu2
      go_wp2_with fail
      refine (HD2.out _ _ HU2.out).mono ?_
      rintro e W3 ⟨u3, rfl, hu3, hb3⟩
      obtain ⟨hc3, hf3, hz3⟩ := bcells hb3 (w.heap.size + 2) (by omega)
      clear hu3
      have B3 : Below w.heap.size w W3 := bel
      go_wp2
      have NB : NumBox W3 (w.heap.size + 1) := NumBox.of hc3 (by omega) (NumBox.of hc2 (by omega) (NumBox.of hc1 (by omega) (.nil (by simp [go_sem]) (by simp [go_sem]) (by simp [go_sem]) (by simp [go_sem]) (by simp [go_sem]))))
      refine bodyPost_ret (v := .tuple #[.agg #[.slice none 0 0, .bool false, .slice none 0 0, .bool false, .slice none 0 0], .bool false]) (by simp [results, Tryz.results90]; exact run_load5e NB _ _ _ _ _ _) rfl ?_
      exact RetRt.box B3 (by omega) NB (IsNum.zero _) (.inr ⟨rfl, rfl, HNO.out⟩) _ _ _ _ _
  · have HNO := hid (root_no hg hq hs1 ht1 (fun c => k1 c.1))
    rw [decide_eq_false k1] at HN
    clear hl hr hi hs h hx hm hsz hT hg hq hd hnat hs1 ht1 hws hwt k1 HD HD2 h0 him
    go_enter Tryz.func90, Tryz.ntmps90
    go_wp2_with fail
    refine (HN.out _ bel).mono ?_
    rintro e W1 ⟨u1, rfl, hu1, hb1⟩
    obtain ⟨hc1, hf1, hz1⟩ := bcells hb1 (w.heap.size + 2) (by simp)
    have B1 : Below w.heap.size w W1 := bel
    clear hu1 hb1
    go_wp2
    have NB : NumBox W1 (w.heap.size + 1) := NumBox.of hc1 (by omega) (.nil (by simp [go_sem]) (by simp [go_sem]) (by simp [go_sem]) (by simp [go_sem]) (by simp [go_sem]))
    refine bodyPost_ret (v := .tuple #[.agg #[.slice none 0 0, .bool false, .slice none 0 0, .bool false, .slice none 0 0], .bool false]) (by simp [results, Tryz.results90]; exact run_load5e NB _ _ _ _ _ _) rfl ?_
    exact RetRt.box B1 (by omega) NB (IsNum.zero _) (.inr ⟨rfl, rfl, HNO.out⟩) _ _ _ _ _
theorem low_turned {x : Cx} {a b : Int} {d : Nat} (hl : Low x a b d) (hi : x.im = 0) : Low ⟨0, x.re⟩ 0 a d := by
  obtain ⟨hd, hg, h1, h2⟩ := hl
  have hb : b = 0 := by
    rw [hi, Rat.zero_mul] at h2
    exact (Rat.intCast_inj.1 (by simpa using h2)).symm
  subst hb
  refine ⟨hd, ?_, by simp, h1⟩
  simpa using hg
theorem turned_any (v : Value) (x : Cx) (w : World) (h : IsNum w v x) (him : x.im = 0) :
    Calls Tryz.prog 91 #[v] w (RetNum w ⟨0, x.re⟩) := by
  obtain ⟨A1, n1, c1, p1, A2, n2, c2, p2, A3, n3, c3, a, b, d, rfl, hl, hr, hi, hs, -, -, -, -, -⟩ := h.parts
  have HI := hid (IsNum.mk (low_turned hl him) (IsInt.zero w none 0) hr hs)
  clear hl hr hi hs h him
  go_enter Tryz.func91, Tryz.ntmps91
  go_wp2
  refine bodyPost_ret (v := .agg #[.slice none 0 0, .bool false, .slice A1 n1 c1, .bool p1, .slice A3 n3 c3]) (by simp [results, Tryz.results91, go_sem]) rfl ?_
  exact ⟨_, rfl, HI.out.below bel, bel⟩
end Go.Proofs.YtccldiokpgjocaaGreatDoor
