/-
  What is proved: for all numbers given as plain data and all exponents, the law NumRounds returns true (Near, Near64, Below and Above of any number times any power of two from 2^-1199 to 2^1199 return the floats of the reference, bit for bit), and its arguments read afterwards as before.
  Conditions: those of the given card alone: the table math/bits.deBruijn32tab lies as the program's text lays it (the card ties it).
-/
import Derived.Test.YtccldiokpgjocaaGreatDoorP28
import Derived.Test.YtccldiokpgjocaaGreatDoorP30
import Derived.Test.YtccldiokpgjocaaGreatDoorP48
import Derived.Test.YtccldiokpgjocaaGreatDoorP60
set_option linter.unusedSimpArgs false
set_option linter.unusedVariables false
namespace Go.Proofs.YtccldiokpgjocaaGreatDoor
open Go.RowKit
set_option maxRecDepth 100000
theorem float32bits_run (w : World) (n : Nat) : (callFunc 13 #[.float .f32 n]).run Tryz.prog w = .ok (.value (.int .u32 (n : Int))) w := by
  rw [run_callFunc_extern (f := 13) (fn := Tryz.f13) (e := Extern.MathFloatBits.float32bits) (by kernel_rfl) (by kernel_rfl) (by kernel_rfl) (by kernel_rfl) (by kernel_rfl)]
  rfl
theorem sameFloat_any (b : Nat) (w : World) : Calls Tryz.prog 12 #[.float .f64 b, .float .f64 b] w fun e w' => e = .returned (.bool true) ∧ w = w' := by
  have hfb := floatbits_run
  go_enter Tryz.func12, Tryz.ntmps12
  go_wp2
  go_ret
  exact ⟨rfl, rfl⟩
theorem rdF32_top {p d : Nat} (hd : 0 < d) : rdF 24 (-149) 104 p d 2 < 2147483648 := by
  rcases Nat.eq_zero_or_pos p with h | h
  · subst h
    unfold rdF
    rw [if_pos rfl]
    omega
  · obtain ⟨m, t, hs, hr⟩ := rdF_spl (hi := 104) Fm.single h hd
    have hm := hs.hm
    rw [two24] at hm
    rw [hr 2]
    split
    · have : ovB 24 (-149) 104 2 = 2139095040 := by
        unfold ovB
        rw [if_neg (by decide), infB_single]
      omega
    · rw [two23]
      split <;> omega
set_option maxHeartbeats 8000000 in
theorem numRounds_walk (w : World) (p q r s : Int) (hp : -9223372036854775808 ≤ p) (hp' : p < 9223372036854775808) (hq : -9223372036854775808 ≤ q) (hq' : q < 9223372036854775808) (hr : -9223372036854775808 ≤ r) (hr' : r < 9223372036854775808) (hs : -32768 ≤ s) (hs' : s < 32768) (hT : Tab w) :
    Calls Tryz.prog 3 #[.agg #[.int .i64 p, .int .i64 q, .int .i64 r], .int .i16 s] w fun e w' => e = .returned (.bool true) ∧ Below w.heap.size w w' := by
  have HSC := hid (fun W (hb : Below w.heap.size w W) => scaledL_any p q r s W hp hp' hq hq' hr hr' hs hs' (hT.below hb))
  have HT := hid hT
  clear hp hp' hq hq' hr hr' hs hs' hT
  go_enter Tryz.func3, Tryz.ntmps3
  go_wp2_with fail
  refine (HSC.out _ bel).mono ?_
  rintro e W2 ⟨x, v, u, hx, rfl, hv, hu, hb2⟩
  obtain ⟨A7, n7, c7, p7, A7b, n7b, c7b, p7b, A7c, n7c, c7c, a, b, d, rfl, hl, -⟩ := hv.parts
  obtain ⟨A8, n8, c8, p8, A8b, n8b, c8b, p8b, A8c, n8c, c8c, a2, b2, d2, rfl, -⟩ := hu.parts
  have HX := hid hx
  have HL := hid hl
  clear hl
  have B2 : Below w.heap.size w W2 := below_trans (below_alloc _ _) hb2
  clear hx HSC hb2
  go_upto_region 2 with fail
  obtain ⟨W3, hW3⟩ : ∃ W3 : World, W3 = (W2.alloc (.cells #[.slice A7 n7 c7, .bool p7, .slice A7b n7b c7b, .bool p7b, .slice A7c n7c c7c] 30)).alloc (.cells #[.bool p8, .slice A8 n8 c8, .bool p8b, .slice A8b n8b c8b, .slice A8c n8c c8c] 34) := ⟨_, rfl⟩
  rw [← hW3]
  have D3 : Below W2.heap.size W2 W3 := by rw [hW3]; exact bel
  have z7 : W2.heap.size < W3.heap.size := by rw [hW3]; simp <;> omega
  have z8 : W2.heap.size + 1 < W3.heap.size := by rw [hW3]; simp <;> omega
  have X7 : W3.heap[W2.heap.size]? = some (.cells #[.slice A7 n7 c7, .bool p7, .slice A7b n7b c7b, .bool p7b, .slice A7c n7c c7c] 30 (0, 0)) := by
    rw [hW3]
    rw [Below.heap_alloc _ _ _ (by simp <;> omega)]
    exact heap_alloc_new _ _
  have X8 : W3.heap[W2.heap.size + 1]? = some (.cells #[.bool p8, .slice A8 n8 c8, .bool p8b, .slice A8b n8b c8b, .slice A8c n8c c8c] 34 (0, 0)) := by
    rw [hW3]
    have := heap_alloc_new (W2.alloc (.cells #[.slice A7 n7 c7, .bool p7, .slice A7b n7b c7b, .bool p7b, .slice A7c n7c c7c] 30)) (.cells #[.bool p8, .slice A8 n8 c8, .bool p8b, .slice A8b n8b c8b, .slice A8c n8c c8c] 34 (0, 0))
    simpa using this
  have N7 := hv.below D3
  have N8 := IsQ.below hu D3
  have B1 := below_trans B2 D3
  clear hW3 hv hu D3 B2
  generalize W2.heap.size = g7 at *
  have hd := HL.out.pos
  obtain ⟨s1, s2, s3⟩ := HX.out a b d HL.out
  have HNe := hid (fun W (hb : Below w.heap.size w W) v (h : IsNum W v x) => near_any v x a b d W h HL.out (by omega) (by omega) (by omega))
  have HRe := hid (fun W v (h : IsQ W v x) => rNear_any v x a b d W h HL.out (by omega) (by omega) (by omega))
  have HNs := hid (fun W (hb : Below w.heap.size w W) v (h : IsNum W v x) => near64_any v x a b d W h HL.out (by omega) (by omega) (by omega) (rdF32_top hd) (rdF32_top hd))
  have HRs := hid (fun W v (h : IsQ W v x) => rNear64_any v x a b d W h HL.out (by omega) (by omega) (by omega))
  have HBn := hid (fun W (hb : Below w.heap.size w W) v (h : IsNum W v x) => belowN_any v x a b d W h HL.out (by omega) (by omega))
  have HBr := hid (fun W v (h : IsQ W v x) => rBelow_any v x a b d W h HL.out (by omega) (by omega))
  have HAn := hid (fun W (hb : Below w.heap.size w W) v (h : IsNum W v x) => aboveN_any v x a b d W h HL.out (by omega) (by omega))
  have HAr := hid (fun W v (h : IsQ W v x) => rAbove_any v x a b d W h HL.out (by omega) (by omega))
  have HS0 := hid (fun b W => sameFloat_any b W)
  have HSF := hid (fun b W => (sameFloat_any b W).mono (R' := fun e w' => e = .returned (.bool true) ∧ Below W.heap.size W w') fun e w' ⟨h1, h2⟩ => ⟨h1, h2 ▸ Below.refl _ _⟩)
  generalize nearB a d = nx at *
  generalize nearB b d = ny at *
  generalize nearB32 a d = sx at *
  generalize nearB32 b d = sy at *
  generalize rdB64 a d (if a < 0 then 1 else 0) = fb at *
  generalize rdB64 a d (if a < 0 then 0 else 1) = fa at *
  clear s1 s2 s3 hd
  refine region_lin [.val (kIs (.agg #[.slice A7 n7 c7, .bool p7, .slice A7b n7b c7b, .bool p7b, .slice A7c n7c c7c])), .val (kIs (.complex .f64 nx ny)), .val (kIs (.agg #[.bool p8, .slice A8 n8 c8, .bool p8b, .slice A8b n8b c8b, .slice A8c n8c c8c])), .val (kIs (.complex .f64 nx ny)), .val (kIs (.complex .f64 nx ny)), .val (kIs (.complex .f64 nx ny))]
    (by kernel_rfl) (by kernel_rfl) (by kernel_rfl) (by kernel_rfl) (by kernel_rfl) ⟨Stab.b (stab_is _), Stab.b (stab_is _), Stab.b (stab_is _), Stab.b (stab_is _), Stab.b (stab_is _), Stab.b (stab_is _), trivial⟩ (by simp) ⟨?_, ?_, ?_, ?_, ?_, ?_, trivial⟩ ?_
  · intro ts W hb hB hp; intro K hK; simp only [fillT, Nat.zero_add, Nat.reduceAdd, sA, sB, sC] at hK ⊢; refine ⟨?_⟩; refine wp_load_row _ _ rfl (g7) rfl _ _ (0, 0) _ ((hb.block _ (z7)).trans X7) Tryz.underlying30 rfl (by kernel_rfl) ?_; exact hK _ _ rfl rfB
  · intro ts W hb hB hp; have h0 : ts 0 = _ := hp 0 (by kernel_rfl); intro K hK; simp only [fillT, Nat.zero_add, Nat.reduceAdd, sA, sB, sC, h0] at hK ⊢; have HK := hid hK; clear hK hp; refine ⟨?_⟩; go_simp; refine (HNe.out W (below_trans B1 hb) _ (N7.below hb)).mono ?_; rintro e W9 ⟨rfl, hb9⟩; exact HK.out _ _ rfl hb9
  · intro ts W hb hB hp; intro K hK; simp only [fillT, Nat.zero_add, Nat.reduceAdd, sA, sB, sC] at hK ⊢; have HK := hid hK; clear hK hp; obtain ⟨f0, f1, f2, f3, f4, -⟩ := bx5 ((hb.block _ z8).trans X8); refine ⟨?_⟩; go_simp; exact HK.out _ _ rfl rfB
  · intro ts W hb hB hp; have h2 : ts 2 = _ := hp 2 (by kernel_rfl); intro K hK; simp only [fillT, Nat.zero_add, Nat.reduceAdd, sA, sB, sC, h2] at hK ⊢; have HK := hid hK; clear hK hp; refine ⟨?_⟩; go_simp; refine (HRe.out W _ (IsQ.below N8 hb)).mono ?_; rintro e W9 ⟨rfl, hb9⟩; exact HK.out _ _ rfl hb9
  · intro ts W hb hB hp; have h1 : ts 1 = _ := hp 1 (by kernel_rfl); intro K hK; simp only [fillT, Nat.zero_add, Nat.reduceAdd, sA, sB, sC, h1] at hK ⊢; have HK := hid hK; clear hK hp; refine ⟨?_⟩; go_simp; exact HK.out _ _ rfl rfB
  · intro ts W hb hB hp; have h3 : ts 3 = _ := hp 3 (by kernel_rfl); intro K hK; simp only [fillT, Nat.zero_add, Nat.reduceAdd, sA, sB, sC, h3] at hK ⊢; have HK := hid hK; clear hK hp; refine ⟨?_⟩; go_simp; exact HK.out _ _ rfl rfB
  intro ts V1 hbq hh hap
  have e4 := held_is (hh 4 (by simp)) rfl
  have e5 := held_is (hh 5 (by simp)) rfl
  simp only [fillT, Nat.zero_add, Nat.reduceAdd, sA, sB, sC, e4, e5]
  clear hh hap e4 e5
  generalize ts 0 = u0_V1 at *
  generalize ts 1 = u1_V1 at *
  generalize ts 2 = u2_V1 at *
  generalize ts 3 = u3_V1 at *
  clear ts
  replace X8 := (hbq.block _ z8).trans X8
  replace z8 := Nat.lt_of_lt_of_le z8 hbq.size
  replace N8 := IsQ.below N8 hbq
  replace X7 := (hbq.block _ z7).trans X7
  replace z7 := Nat.lt_of_lt_of_le z7 hbq.size
  replace N7 := N7.below hbq
  replace B1 := below_trans B1 hbq
  clear hbq
  go_upto_region 3 with fail
  refine region_lin [.val (kIs (.agg #[.slice A7 n7 c7, .bool p7, .slice A7b n7b c7b, .bool p7b, .slice A7c n7c c7c])), .val (kIs (.complex .f32 sx sy)), .val (kIs (.agg #[.bool p8, .slice A8 n8 c8, .bool p8b, .slice A8b n8b c8b, .slice A8c n8c c8c])), .val (kIs (.complex .f32 sx sy)), .val (kIs (.complex .f32 sx sy)), .val (kIs (.complex .f32 sx sy))]
    (by kernel_rfl) (by kernel_rfl) (by kernel_rfl) (by kernel_rfl) (by kernel_rfl) ⟨Stab.b (stab_is _), Stab.b (stab_is _), Stab.b (stab_is _), Stab.b (stab_is _), Stab.b (stab_is _), Stab.b (stab_is _), trivial⟩ (by simp) ⟨?_, ?_, ?_, ?_, ?_, ?_, trivial⟩ ?_
  · intro ts W hb hB hp; intro K hK; simp only [fillT, Nat.zero_add, Nat.reduceAdd, sA, sB, sC] at hK ⊢; refine ⟨?_⟩; refine wp_load_row _ _ rfl (g7) rfl _ _ (0, 0) _ ((hb.block _ (z7)).trans X7) Tryz.underlying30 rfl (by kernel_rfl) ?_; exact hK _ _ rfl rfB
  · intro ts W hb hB hp; have h0 : ts 0 = _ := hp 0 (by kernel_rfl); intro K hK; simp only [fillT, Nat.zero_add, Nat.reduceAdd, sA, sB, sC, h0] at hK ⊢; have HK := hid hK; clear hK hp; refine ⟨?_⟩; go_simp; refine (HNs.out W (below_trans B1 hb) _ (N7.below hb)).mono ?_; rintro e W9 ⟨rfl, hb9⟩; exact HK.out _ _ rfl hb9
  · intro ts W hb hB hp; intro K hK; simp only [fillT, Nat.zero_add, Nat.reduceAdd, sA, sB, sC] at hK ⊢; have HK := hid hK; clear hK hp; obtain ⟨f0, f1, f2, f3, f4, -⟩ := bx5 ((hb.block _ z8).trans X8); refine ⟨?_⟩; go_simp; exact HK.out _ _ rfl rfB
  · intro ts W hb hB hp; have h2 : ts 2 = _ := hp 2 (by kernel_rfl); intro K hK; simp only [fillT, Nat.zero_add, Nat.reduceAdd, sA, sB, sC, h2] at hK ⊢; have HK := hid hK; clear hK hp; refine ⟨?_⟩; go_simp; refine (HRs.out W _ (IsQ.below N8 hb)).mono ?_; rintro e W9 ⟨rfl, hb9⟩; exact HK.out _ _ rfl hb9
  · intro ts W hb hB hp; have h1 : ts 1 = _ := hp 1 (by kernel_rfl); intro K hK; simp only [fillT, Nat.zero_add, Nat.reduceAdd, sA, sB, sC, h1] at hK ⊢; have HK := hid hK; clear hK hp; refine ⟨?_⟩; go_simp; exact HK.out _ _ rfl rfB
  · intro ts W hb hB hp; have h3 : ts 3 = _ := hp 3 (by kernel_rfl); intro K hK; simp only [fillT, Nat.zero_add, Nat.reduceAdd, sA, sB, sC, h3] at hK ⊢; have HK := hid hK; clear hK hp; refine ⟨?_⟩; go_simp; exact HK.out _ _ rfl rfB
  intro ts V2 hbq hh hap
  have e4 := held_is (hh 4 (by simp)) rfl
  have e5 := held_is (hh 5 (by simp)) rfl
  simp only [fillT, Nat.zero_add, Nat.reduceAdd, sA, sB, sC, e4, e5]
  clear hh hap e4 e5
  generalize ts 0 = u0_V2 at *
  generalize ts 1 = u1_V2 at *
  generalize ts 2 = u2_V2 at *
  generalize ts 3 = u3_V2 at *
  clear ts
  replace X8 := (hbq.block _ z8).trans X8
  replace z8 := Nat.lt_of_lt_of_le z8 hbq.size
  replace N8 := IsQ.below N8 hbq
  replace X7 := (hbq.block _ z7).trans X7
  replace z7 := Nat.lt_of_lt_of_le z7 hbq.size
  replace N7 := N7.below hbq
  replace B1 := below_trans B1 hbq
  clear hbq
  have hfb := floatbits_run
  have hgb := float32bits_run
  go_wp2_with fail
  refine (HS0.out _ _).mono ?_
  rintro e9 W9 ⟨rfl, rfl⟩
  go_wp2_with fail
  refine (HS0.out _ _).mono ?_
  rintro e9 W9 ⟨rfl, rfl⟩
  go_upto_region 6 with fail
  clear hfb hgb
  refine region_lin [.val (kIs (.agg #[.slice A7 n7 c7, .bool p7, .slice A7b n7b c7b, .bool p7b, .slice A7c n7c c7c])), .val (kIs (.float .f64 fb)), .val (kIs (.agg #[.bool p8, .slice A8 n8 c8, .bool p8b, .slice A8b n8b c8b, .slice A8c n8c c8c])), .val (kIs (.float .f64 fb)), .val (kIs (.bool true)), .val (kIs (.bool true)), .val (kIs (.agg #[.slice A7 n7 c7, .bool p7, .slice A7b n7b c7b, .bool p7b, .slice A7c n7c c7c])), .val (kIs (.float .f64 fa)), .val (kIs (.agg #[.bool p8, .slice A8 n8 c8, .bool p8b, .slice A8b n8b c8b, .slice A8c n8c c8c])), .val (kIs (.float .f64 fa)), .val (kIs (.bool true)), .val (kIs (.bool true)), .val (kIs (.bool true)), .val (kIs (.bool true)), .val (kIs (.bool true)), .val (kIs (.bool true))]
    (by kernel_rfl) (by kernel_rfl) (by kernel_rfl) (by kernel_rfl) (by kernel_rfl) ⟨Stab.b (stab_is _), Stab.b (stab_is _), Stab.b (stab_is _), Stab.b (stab_is _), Stab.b (stab_is _), Stab.b (stab_is _), Stab.b (stab_is _), Stab.b (stab_is _), Stab.b (stab_is _), Stab.b (stab_is _), Stab.b (stab_is _), Stab.b (stab_is _), Stab.b (stab_is _), Stab.b (stab_is _), Stab.b (stab_is _), Stab.b (stab_is _), trivial⟩ (by simp) ⟨?_, ?_, ?_, ?_, ?_, ?_, ?_, ?_, ?_, ?_, ?_, ?_, ?_, ?_, ?_, ?_, trivial⟩ ?_
  · intro ts W hb hB hp; intro K hK; simp only [fillT, Nat.zero_add, Nat.reduceAdd, sA, sB, sC] at hK ⊢; refine ⟨?_⟩; refine wp_load_row _ _ rfl (g7) rfl _ _ (0, 0) _ ((hb.block _ (z7)).trans X7) Tryz.underlying30 rfl (by kernel_rfl) ?_; exact hK _ _ rfl rfB
  · intro ts W hb hB hp; have h0 : ts 0 = _ := hp 0 (by kernel_rfl); intro K hK; simp only [fillT, Nat.zero_add, Nat.reduceAdd, sA, sB, sC, h0] at hK ⊢; have HK := hid hK; clear hK hp; refine ⟨?_⟩; go_simp; refine (HBn.out W (below_trans B1 hb) _ (N7.below hb)).mono ?_; rintro e W9 ⟨rfl, hb9⟩; exact HK.out _ _ rfl hb9
  · intro ts W hb hB hp; intro K hK; simp only [fillT, Nat.zero_add, Nat.reduceAdd, sA, sB, sC] at hK ⊢; have HK := hid hK; clear hK hp; obtain ⟨f0, f1, f2, f3, f4, -⟩ := bx5 ((hb.block _ z8).trans X8); refine ⟨?_⟩; go_simp; exact HK.out _ _ rfl rfB
  · intro ts W hb hB hp; have h2 : ts 2 = _ := hp 2 (by kernel_rfl); intro K hK; simp only [fillT, Nat.zero_add, Nat.reduceAdd, sA, sB, sC, h2] at hK ⊢; have HK := hid hK; clear hK hp; refine ⟨?_⟩; go_simp; refine (HBr.out W _ (IsQ.below N8 hb)).mono ?_; rintro e W9 ⟨rfl, hb9⟩; exact HK.out _ _ rfl hb9
  · intro ts W hb hB hp; have h1 : ts 1 = _ := hp 1 (by kernel_rfl); have h3 : ts 3 = _ := hp 3 (by kernel_rfl); intro K hK; simp only [fillT, Nat.zero_add, Nat.reduceAdd, sA, sB, sC, h1, h3] at hK ⊢; have HK := hid hK; clear hK hp; refine ⟨?_⟩; go_simp; refine (HSF.out fb W).mono ?_; rintro e W9 ⟨rfl, hb9⟩; exact HK.out _ _ rfl hb9
  · intro ts W hb hB hp; have h4 : ts 4 = _ := hp 4 (by kernel_rfl); intro K hK; simp only [fillT, Nat.zero_add, Nat.reduceAdd, sA, sB, sC, h4] at hK ⊢; have HK := hid hK; clear hK hp; refine ⟨?_⟩; go_simp; exact HK.out _ _ rfl rfB
  · intro ts W hb hB hp; have h5 : ts 5 = _ := hp 5 (by kernel_rfl); refine Guarded.on h5 ?_; clear h5; intro K hK; simp only [fillT, Nat.zero_add, Nat.reduceAdd, sA, sB, sC] at hK ⊢; refine ⟨?_⟩; refine wp_load_row _ _ rfl (g7) rfl _ _ (0, 0) _ ((hb.block _ (z7)).trans X7) Tryz.underlying30 rfl (by kernel_rfl) ?_; exact hK _ _ rfl rfB
  · intro ts W hb hB hp; have h6 : ts 6 = _ := hp 6 (by kernel_rfl); have h5 : ts 5 = _ := hp 5 (by kernel_rfl); refine Guarded.on h5 ?_; clear h5; intro K hK; simp only [fillT, Nat.zero_add, Nat.reduceAdd, sA, sB, sC, h6] at hK ⊢; have HK := hid hK; clear hK hp; refine ⟨?_⟩; go_simp; refine (HAn.out W (below_trans B1 hb) _ (N7.below hb)).mono ?_; rintro e W9 ⟨rfl, hb9⟩; exact HK.out _ _ rfl hb9
  · intro ts W hb hB hp; have h5 : ts 5 = _ := hp 5 (by kernel_rfl); refine Guarded.on h5 ?_; clear h5; intro K hK; simp only [fillT, Nat.zero_add, Nat.reduceAdd, sA, sB, sC] at hK ⊢; have HK := hid hK; clear hK hp; obtain ⟨f0, f1, f2, f3, f4, -⟩ := bx5 ((hb.block _ z8).trans X8); refine ⟨?_⟩; go_simp; exact HK.out _ _ rfl rfB
  · intro ts W hb hB hp; have h8 : ts 8 = _ := hp 8 (by kernel_rfl); have h5 : ts 5 = _ := hp 5 (by kernel_rfl); refine Guarded.on h5 ?_; clear h5; intro K hK; simp only [fillT, Nat.zero_add, Nat.reduceAdd, sA, sB, sC, h8] at hK ⊢; have HK := hid hK; clear hK hp; refine ⟨?_⟩; go_simp; refine (HAr.out W _ (IsQ.below N8 hb)).mono ?_; rintro e W9 ⟨rfl, hb9⟩; exact HK.out _ _ rfl hb9
  · intro ts W hb hB hp; have h7 : ts 7 = _ := hp 7 (by kernel_rfl); have h9 : ts 9 = _ := hp 9 (by kernel_rfl); have h5 : ts 5 = _ := hp 5 (by kernel_rfl); refine Guarded.on h5 ?_; clear h5; intro K hK; simp only [fillT, Nat.zero_add, Nat.reduceAdd, sA, sB, sC, h7, h9] at hK ⊢; have HK := hid hK; clear hK hp; refine ⟨?_⟩; go_simp; refine (HSF.out fa W).mono ?_; rintro e W9 ⟨rfl, hb9⟩; exact HK.out _ _ rfl hb9
  · intro ts W hb hB hp; have h5 : ts 5 = _ := hp 5 (by kernel_rfl); have h10 : ts 10 = _ := hp 10 (by kernel_rfl); intro K hK; simp only [fillT, Nat.zero_add, Nat.reduceAdd, sA, sB, sC, h5, h10] at hK ⊢; have HK := hid hK; clear hK hp; refine ⟨?_⟩; go_simp; exact HK.out _ _ rfl rfB
  · intro ts W hb hB hp; have h11 : ts 11 = _ := hp 11 (by kernel_rfl); intro K hK; simp only [fillT, Nat.zero_add, Nat.reduceAdd, sA, sB, sC, h11] at hK ⊢; have HK := hid hK; clear hK hp; refine ⟨?_⟩; go_simp; exact HK.out _ _ rfl rfB
  · intro ts W hb hB hp; have h12 : ts 12 = _ := hp 12 (by kernel_rfl); refine Guarded.on h12 ?_; clear h12; intro K hK; simp only [fillT, Nat.zero_add, Nat.reduceAdd, sA, sB, sC] at hK ⊢; have HK := hid hK; clear hK hp; refine ⟨?_⟩; go_simp; refine (awake_any W (HT.out.below (below_trans B1 hb))).mono ?_; rintro e W9 ⟨rfl, hb9⟩; exact HK.out _ _ rfl hb9
  · intro ts W hb hB hp; have h12 : ts 12 = _ := hp 12 (by kernel_rfl); have h13 : ts 13 = _ := hp 13 (by kernel_rfl); intro K hK; simp only [fillT, Nat.zero_add, Nat.reduceAdd, sA, sB, sC, h12, h13] at hK ⊢; have HK := hid hK; clear hK hp; refine ⟨?_⟩; go_simp; exact HK.out _ _ rfl rfB
  · intro ts W hb hB hp; have h14 : ts 14 = _ := hp 14 (by kernel_rfl); intro K hK; simp only [fillT, Nat.zero_add, Nat.reduceAdd, sA, sB, sC, h14] at hK ⊢; have HK := hid hK; clear hK hp; refine ⟨?_⟩; go_simp; exact HK.out _ _ rfl rfB
  intro ts V8 hbq hh hap
  have e15 := held_is (hh 15 (by simp)) rfl
  simp only [fillT, Nat.zero_add, Nat.reduceAdd, sA, sB, sC, e15]
  clear hh hap e15
  generalize ts 0 = u0_V8 at *
  generalize ts 1 = u1_V8 at *
  generalize ts 2 = u2_V8 at *
  generalize ts 3 = u3_V8 at *
  generalize ts 4 = u4_V8 at *
  generalize ts 5 = u5_V8 at *
  generalize ts 6 = u6_V8 at *
  generalize ts 7 = u7_V8 at *
  generalize ts 8 = u8_V8 at *
  generalize ts 9 = u9_V8 at *
  generalize ts 10 = u10_V8 at *
  generalize ts 11 = u11_V8 at *
  generalize ts 12 = u12_V8 at *
  generalize ts 13 = u13_V8 at *
  generalize ts 14 = u14_V8 at *
  clear ts
  go_wp2
  go_ret
  exact ⟨rfl, below_trans B1 hbq⟩
end Go.Proofs.YtccldiokpgjocaaGreatDoor
set_option linter.unusedSimpArgs false
set_option linter.unusedVariables false
namespace Go.Proofs.YtccldiokpgjocaaGreatDoor
open Go Go.ChangeShapes Go.WideShapes Go.ChangeAt Go.WideMaps Go.WideElems Go.RowKit Go.Joins
set_option maxRecDepth 100000
theorem door_met (os : Os) (args : Array Value) : laidMetH Tryz.prog [("math/bits.deBruijn32tab", Rows.laid_math_bits_deBruijn32tab)] ((World.doorLaid Tryz.prog 400 os).forCall (fun _ _ => 0) ⟨#[], args, []⟩).memory :=
  laidMetH_of_parts3 (fuel := 8) (laidMet_of_run' 8 (by kernel_rfl) (by kernel_rfl)) (by kernel_rfl) (by kernel_rfl)
theorem ratio_cells : Tryz.prog.cellsOf 23 = 3 := by kernel_rfl
theorem open_ratio {H : Type} {enc : TypeId × Value → H} {W : World} {base : Nat} {v : Value} {d : DataW H} {p : List MemPlace} {b0 : Nat} (hv : Value.okWide Tryz.prog W .any b0 23 v) (h : DataW.Trod enc Tryz.prog W base (fun _ => true) true 23 v d p) :
    ∃ r i q : Int, v = .agg #[.int .i64 r, .int .i64 i, .int .i64 q] ∧ (-9223372036854775808 ≤ r ∧ r < 9223372036854775808) ∧ (-9223372036854775808 ≤ i ∧ i < 9223372036854775808) ∧ (-9223372036854775808 ≤ q ∧ q < 9223372036854775808) := by
  obtain ⟨c0, c1, c2, y0, y1, y2, m, rfl, -, -, h0, h1, h2⟩ := open_agg3 Tryz.underlying23 (by kernel_rfl) ratio_cells hv h
  obtain ⟨n0, e0, -, w0⟩ := DataW.trod_int Tryz.underlying2 h0
  obtain ⟨n1, e1, -, w1⟩ := DataW.trod_int Tryz.underlying2 h1
  obtain ⟨n2, e2, -, w2⟩ := DataW.trod_int Tryz.underlying2 h2
  simp at e0 e1 e2
  subst e0 e1 e2
  have bd : ∀ n : Int, (Lit.int .i64 n).wf = true → -9223372036854775808 ≤ n ∧ n < 9223372036854775808 := fun n hw => by
    have hw' : (decide (IntKind.i64.min ≤ n) && decide (n ≤ IntKind.i64.max)) = true := hw
    simp only [Bool.and_eq_true] at hw'
    have e1 : IntKind.i64.min = -9223372036854775808 := by decide
    have e2 : IntKind.i64.max = 9223372036854775807 := by decide
    have h1 := of_decide_eq_true hw'.1
    have h2 := of_decide_eq_true hw'.2
    omega
  exact ⟨n0, n1, n2, rfl, bd _ w0, bd _ w1, bd _ w2⟩
theorem open_int16 {H : Type} {enc : TypeId × Value → H} {W : World} {base : Nat} {v : Value} {d : DataW H} {p : List MemPlace} {b0 : Nat} (hv : Value.okWide Tryz.prog W .any b0 24 v) (h : DataW.Trod enc Tryz.prog W base (fun _ => true) true 24 v d p) :
    ∃ n : Int, v = .int .i16 n ∧ -32768 ≤ n ∧ n < 32768 := by
  obtain ⟨z, rfl⟩ := okWide_int Tryz.underlying24 hv
  obtain ⟨fuel, hf⟩ := h
  obtain ⟨n, hn, -, hw⟩ := DataW.trod_int Tryz.underlying24 hf
  simp [Value.cells] at hn
  subst hn
  have hw' : (decide (IntKind.i16.min ≤ z) && decide (z ≤ IntKind.i16.max)) = true := hw
  simp only [Bool.and_eq_true] at hw'
  have e1 : IntKind.i16.min = -32768 := by decide
  have e2 : IntKind.i16.max = 32768 - 1 := by decide
  have h1 := of_decide_eq_true hw'.1
  have h2 := of_decide_eq_true hw'.2
  exact ⟨z, rfl, by omega, by omega⟩
theorem numRounds_lifted (os : Os) (started : os.Started) (H : Type) (enc : TypeId × Value → H) :
    ReturnsInHanded {} Tryz.checked os 3 .any (fun w args => (Rows.numRoundsSpec.pre enc Tryz.prog Tryz.f3 [] false w args ∧ laidMetH Tryz.prog [("math/bits.deBruijn32tab", Rows.laid_math_bits_deBruijn32tab)] w) ∧ sizedMet enc Tryz.prog Tryz.f3 (OpenSpec.ofChange Rows.numRoundsSpec) false w args)
      (Rows.numRoundsSpec.post enc Tryz.prog Tryz.f3 false true false false) := by
  refine returnsInHanded_of_change_and (C := Tryz.checked) (X := fun w _ => laidMetH Tryz.prog [("math/bits.deBruijn32tab", Rows.laid_math_bits_deBruijn32tab)] w) (fun _ _ _ hh h => h.of_heap hh) own_knob started (by kernel_rfl) Tryz.func3
    (ChangeSpec.witness_shaped (enc := enc) (C := Tryz.checked) (os := os) (X := fun w _ => laidMetH Tryz.prog [("math/bits.deBruijn32tab", Rows.laid_math_bits_deBruijn32tab)] w) false (World.doorLaid Tryz.prog 400 os) #[.agg #[.int .i64 0, .int .i64 0, .int .i64 1], .int .i16 0] 8 rfl (World.shaped_of_RefB (by kernel_rfl) (by kernel_rfl)) (by kernel_rfl) (by kernel_rfl) (by kernel_rfl) (door_met os _)) ?_
  intro W base args ds gs before hval0 hW _ _ hL _
  have hval : ∀ (j : Nat) t v, Tryz.f3.params[j]? = some t → args[j]? = some v → Value.okWide Tryz.prog W .any base t v := hval0
  have hWW := hW
  obtain ⟨p, q, hA0, hV, rfl, hfz, hnd⟩ := hW
  have hA : DataW.TrodAll enc Tryz.prog W 0 (fun _ => true) true Tryz.f3.params.toList args.toList ds p := hA0
  rw [Tryz.params3] at hA hval
  obtain ⟨v0, v1, d0, d1, q0, q1, rfl, rfl, rfl, h0, h1⟩ := trodAll_two hA
  obtain ⟨a0, b0, c0, rfl, ha0, hb0, hc0⟩ := open_ratio (hval 0 _ _ rfl rfl) h0
  obtain ⟨n1, rfl, hn1, hm1⟩ := open_int16 (hval 1 _ _ rfl rfl) h1
  have hT := tab_of_laid hL
  obtain ⟨rfl, rfl⟩ := trodVars_none hV
  refine (numRounds_walk W a0 b0 c0 n1 ha0.1 ha0.2 hb0.1 hb0.2 hc0.1 hc0.2 hn1 hm1 hT).mono fun e W' ⟨he, hb⟩ => ?_
  subst he
  exact ⟨_, rfl, law_post rfl rfl (by kernel_rfl) ⟨rfl, rfl, rfl⟩ hWW hb⟩
theorem numRounds_said : Rows.NumRoundsSaid :=
  OpenClaim.holds_of_wide 3 Tryz.f3 rfl rfl rfl rfl rfl rfl rfl ⟨rfl, rfl, rfl, rfl, rfl⟩ rfl rfl rfl rfl rfl (by kernel_rfl) Tryz.func3 (by kernel_rfl)
    (of_decide_eq_true (by kernel_rfl)) (by unfold Func.isWrapper; first | (rw [if_pos (by decide +kernel)]; kernel_rfl) | (rw [if_neg (by decide +kernel)]; exact ⟨rfl, rfl⟩))
    (fun os started H enc _ => numRounds_lifted os started H enc)
theorem numRounds_holds : Rows.NumRoundsCardSaid :=
  Claim7.holds_tied_plain_at .later [] [.data] true Rows.numRoundsCard.stood.harness false
    numRounds_said (fun _ h => by cases h) (by kernel_rfl) (fun _ h => by cases h) numRounds_row_tie rfl ⟨rfl, rfl⟩ (by kernel_rfl) rfl
    (fun f fn hf hfn => by
      obtain rfl : f = 3 := Option.some.inj ((show Tryz.prog.funcNamed "waveport/waveportlaw01.NumRounds" = some 3 by kernel_rfl).symm.trans hf) |>.symm
      obtain rfl : fn = Tryz.f3 := (Option.some.inj (Tryz.func3.symm.trans hfn)).symm
      exact ⟨by kernel_rfl, fun j t ht => by
        rw [Tryz.params3] at ht
        have hm : t ∈ [23, 24] := by simpa using Array.mem_of_getElem? ht
        have hall : ([23, 24].all fun u => !Tryz.prog.wantsStandIn u) = true := by kernel_rfl
        exact (show Tryz.prog.wantsStandIn t = false by simpa using List.all_eq_true.1 hall t hm)⟩)
    (by kernel_rfl)
end Go.Proofs.YtccldiokpgjocaaGreatDoor
