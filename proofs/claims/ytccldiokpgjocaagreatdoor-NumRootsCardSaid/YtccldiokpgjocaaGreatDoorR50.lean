import Derived.IntWalk
import Derived.Test.YtccldiokpgjocaaGreatDoorR14
import Derived.Test.YtccldiokpgjocaaGreatDoorR17
import Derived.Test.YtccldiokpgjocaaGreatDoorR25
import Derived.Test.YtccldiokpgjocaaGreatDoorR26
import Derived.Test.YtccldiokpgjocaaGreatDoorR28
import Derived.Test.YtccldiokpgjocaaGreatDoorR31
import Derived.Test.YtccldiokpgjocaaGreatDoorR32
import Derived.Test.YtccldiokpgjocaaGreatDoorR33
import Derived.Test.YtccldiokpgjocaaGreatDoorR34
import Derived.Test.YtccldiokpgjocaaGreatDoorR35
import Derived.Test.YtccldiokpgjocaaGreatDoorR39
import Derived.Test.YtccldiokpgjocaaGreatDoorR42
import Derived.Test.YtccldiokpgjocaaGreatDoorR44
import Derived.Test.YtccldiokpgjocaaGreatDoorR49
set_option linter.unusedSimpArgs false
set_option linter.unusedVariables false
namespace Go.Proofs.YtccldiokpgjocaaGreatDoor
open Go.RowKit
set_option maxRecDepth 100000
theorem bx3 {W : World} {g : Nat} {T : TypeId} {v0 v1 v2 : Value} (h : W.heap[g]? = some (.cells #[v0, v1, v2] T (0, 0))) :
    W.cell? ⟨g, 0, none⟩ = some v0 ∧ W.cell? ⟨g, 1, none⟩ = some v1 ∧ W.cell? ⟨g, 2, none⟩ = some v2 := by simp [World.cell?, h]
def kWhen (b : Bool) (p : Value → World → Prop) : Value → World → Prop := fun v W => b = true → p v W
theorem stab_when {p : Value → World → Prop} (b : Bool) (h : Stab p) : Stab (kWhen b p) := fun v w w' he k c => h v w w' he (k c)
theorem roots_agree {x y z : Cx} {ok is : Bool} (h : (ok = true ∧ Pri y x) ∨ (ok = false ∧ y = .zero ∧ ¬ ∃ y : Cx, y.mul y = x)) (k : (is = true ∧ Pri z x) ∨ (is = false ∧ z = .zero ∧ ¬ ∃ y : Cx, y.mul y = x)) :
    is = ok ∧ z = y ∧ (ok = true → y.mul y = x) := by
  rcases h with ⟨rfl, h⟩ | ⟨rfl, rfl, h⟩ <;> rcases k with ⟨rfl, k⟩ | ⟨rfl, rfl, k⟩
  · exact ⟨rfl, k.uniq h, fun _ => h.1⟩
  · exact absurd ⟨_, h.1⟩ k
  · exact absurd ⟨_, k.1⟩ h
  · exact ⟨rfl, rfl, fun c => by cases c⟩
set_option maxHeartbeats 4000000 in
theorem numRoots_walk (w : World) (p0 q0 r0 p1 q1 r1 : Int) (hp0 : -9223372036854775808 ≤ p0) (hp0' : p0 < 9223372036854775808) (hq0 : -9223372036854775808 ≤ q0) (hq0' : q0 < 9223372036854775808) (hr0 : -9223372036854775808 ≤ r0) (hr0' : r0 < 9223372036854775808)
    (hp1 : -9223372036854775808 ≤ p1) (hp1' : p1 < 9223372036854775808) (hq1 : -9223372036854775808 ≤ q1) (hq1' : q1 < 9223372036854775808) (hr1 : -9223372036854775808 ≤ r1) (hr1' : r1 < 9223372036854775808) (hT : Tab w) :
    Calls Tryz.prog 6 #[.agg #[.int .i64 p0, .int .i64 q0, .int .i64 r0], .agg #[.int .i64 p1, .int .i64 q1, .int .i64 r1]] w fun e w' => e = .returned (.bool true) ∧ Below w.heap.size w w' := by
  have S0 := sz_of hp0 hp0' hq0 hq0' hr0 hr0'
  have S1 := sz_of hp1 hp1' hq1 hq1' hr1 hr1'
  have HN0 := hid (fun W (hb : Below w.heap.size w W) => of_any p0 q0 r0 W hp0 hp0' hq0 hq0' hr0 hr0' (hT.below hb))
  have HN1 := hid (fun W (hb : Below w.heap.size w W) => of_any p1 q1 r1 W hp1 hp1' hq1 hq1' hr1 hr1' (hT.below hb))
  have HQ0 := hid (fun W => rOf_any p0 q0 r0 W hp0 hp0' hq0 hq0' hr0 hr0')
  have HQ1 := hid (fun W => rOf_any p1 q1 r1 W hp1 hp1' hq1 hq1' hr1 hr1')
  have HT := hid hT
  clear hp0 hp0' hq0 hq0' hr0 hr0' hp1 hp1' hq1 hq1' hr1 hr1' hT
  obtain ⟨X, hX⟩ : ∃ X, X = (ofR p0 q0 r0).mul (ofR p1 q1 r1) := ⟨_, rfl⟩
  have HMN := hid (fun W (hb : Below w.heap.size w W) v u (hv : IsNum W v (ofR p0 q0 r0)) (hu : IsNum W u (ofR p1 q1 r1)) => (mulN_any v u _ _ W hv hu 2 2 S0 S1 (by omega) (HT.out.below hb)).mono (R' := RetNum W X) fun e w' h => by rw [hX]; exact h)
  have HMQ := hid (fun W v u (hv : IsQ W v (ofR p0 q0 r0)) (hu : IsQ W u (ofR p1 q1 r1)) => (rMul_any v u _ _ W hv hu 2 2 S0 S1 (by omega)).mono (R' := RetQ W X) fun e w' h => by rw [hX]; exact h)
  have SX : Sz X 5 := by rw [hX]; exact S0.mul S1
  have SZ := S0.mul S0
  have HSX := hid (fun W (hb : Below w.heap.size w W) v (hv : IsNum W v X) => sqrtN_any v X W hv (HT.out.below hb) 5 SX (by omega))
  have HRX := hid (fun W v (hv : IsQ W v X) => rsqrt_any v X W hv 5 SX (by omega))
  have HS5 := hid SX
  have HZ0 := hid S0
  clear S1 hX SX
  generalize hA : ofR p0 q0 r0 = A at *
  generalize ofR p1 q1 r1 = Bq at *
  have HZM := hid (fun W (hb : Below w.heap.size w W) v u (hv : IsNum W v A) (hu : IsNum W u A) => mulN_any v u _ _ W hv hu 2 2 S0 S0 (by omega) (HT.out.below hb))
  have HSZ := hid (fun W (hb : Below w.heap.size w W) v (hv : IsNum W v (A.mul A)) => sqrtN_any v _ W hv (HT.out.below hb) 5 SZ (by omega))
  have HSZZ := hid SZ
  clear S0 SZ hA
  go_enter Tryz.func6, Tryz.ntmps6
  go_upto_region 1 with fail
  obtain ⟨W1, hW1⟩ : ∃ W1 : World, W1 = (w.alloc (.cells #[.int .i64 p0, .int .i64 q0, .int .i64 r0] 23)).alloc (.cells #[.int .i64 p1, .int .i64 q1, .int .i64 r1] 23) := ⟨_, rfl⟩
  rw [← hW1]
  have B1 : Below w.heap.size w W1 := by rw [hW1]; exact bel
  have XX := boxes2 w (.cells #[.int .i64 p0, .int .i64 q0, .int .i64 r0] 23) (.cells #[.int .i64 p1, .int .i64 q1, .int .i64 r1] 23)
  rw [← hW1] at XX
  obtain ⟨X2, z2, X3, z3⟩ := XX
  clear hW1
  refine region_lin [.val (kIs (.agg #[.int .i64 p0, .int .i64 q0, .int .i64 r0])), .val (kNum (A)), .val (kIs (.agg #[.int .i64 p1, .int .i64 q1, .int .i64 r1])), .val (kNum (Bq)), .val (kNum (X)), .val (kIs (.agg #[.int .i64 p0, .int .i64 q0, .int .i64 r0])), .val (kQ (A)), .val (kIs (.agg #[.int .i64 p1, .int .i64 q1, .int .i64 r1])), .val (kQ (Bq)), .val (kQ (X)), .box 30 zNum, .box 34 zQ, .put 10 4, .put 11 9]
    (by kernel_rfl) (by kernel_rfl) (by kernel_rfl) (by kernel_rfl) (by kernel_rfl) ⟨stab_is _, stab_num _, stab_is _, stab_num _, stab_num _, stab_is _, stab_q _, stab_is _, stab_q _, stab_q _, trivial⟩ (by simp) ⟨?_, ?_, ?_, ?_, ?_, ?_, ?_, ?_, ?_, ?_, alloc_num, alloc_q, store_num _, store_q _, trivial⟩ ?_
  · intro ts W hb hB hp; intro K hK; simp only [fillT, Nat.zero_add, Nat.reduceAdd, sA, sB, sC] at hK ⊢; have HK := hid hK; clear hK hp; obtain ⟨q0, q1, q2⟩ := bx3 ((hb.block _ z2).trans X2); refine ⟨?_⟩; refine wp_load_rat rfl rfl q0 q1 q2 ?_; exact HK.out _ _ rfl rfB
  · intro ts W hb hB hp; have h0 : ts 0 = _ := hp 0 (by kernel_rfl); intro K hK; simp only [fillT, Nat.zero_add, Nat.reduceAdd, sA, sB, sC, h0] at hK ⊢; have HK := hid hK; clear hK hp; refine ⟨?_⟩; go_simp; refine (HN0.out W (below_trans B1 hb)).mono ?_; rintro e W9 ⟨r9, rfl, hr9, hb9⟩; exact HK.out _ _ hr9 hb9
  · intro ts W hb hB hp; intro K hK; simp only [fillT, Nat.zero_add, Nat.reduceAdd, sA, sB, sC] at hK ⊢; have HK := hid hK; clear hK hp; obtain ⟨q0, q1, q2⟩ := bx3 ((hb.block _ z3).trans X3); refine ⟨?_⟩; refine wp_load_rat rfl rfl q0 q1 q2 ?_; exact HK.out _ _ rfl rfB
  · intro ts W hb hB hp; have h2 : ts 2 = _ := hp 2 (by kernel_rfl); intro K hK; simp only [fillT, Nat.zero_add, Nat.reduceAdd, sA, sB, sC, h2] at hK ⊢; have HK := hid hK; clear hK hp; refine ⟨?_⟩; go_simp; refine (HN1.out W (below_trans B1 hb)).mono ?_; rintro e W9 ⟨r9, rfl, hr9, hb9⟩; exact HK.out _ _ hr9 hb9
  · intro ts W hb hB hp; have h1 : IsNum W (ts 1) (A) := hp 1 (by kernel_rfl); have h3 : IsNum W (ts 3) (Bq) := hp 3 (by kernel_rfl); intro K hK; simp only [fillT, Nat.zero_add, Nat.reduceAdd, sA, sB, sC] at hK ⊢; have HK := hid hK; clear hK hp; refine ⟨?_⟩; go_simp; refine (HMN.out W (below_trans B1 hb) _ _ h1 h3).mono ?_; rintro e W9 ⟨r9, rfl, hr9, hb9⟩; exact HK.out _ _ hr9 hb9
  · intro ts W hb hB hp; intro K hK; simp only [fillT, Nat.zero_add, Nat.reduceAdd, sA, sB, sC] at hK ⊢; have HK := hid hK; clear hK hp; obtain ⟨q0, q1, q2⟩ := bx3 ((hb.block _ z2).trans X2); refine ⟨?_⟩; refine wp_load_rat rfl rfl q0 q1 q2 ?_; exact HK.out _ _ rfl rfB
  · intro ts W hb hB hp; have h5 : ts 5 = _ := hp 5 (by kernel_rfl); intro K hK; simp only [fillT, Nat.zero_add, Nat.reduceAdd, sA, sB, sC, h5] at hK ⊢; have HK := hid hK; clear hK hp; refine ⟨?_⟩; go_simp; refine (HQ0.out W).mono ?_; rintro e W9 ⟨r9, rfl, hr9, hb9⟩; exact HK.out _ _ hr9 hb9
  · intro ts W hb hB hp; intro K hK; simp only [fillT, Nat.zero_add, Nat.reduceAdd, sA, sB, sC] at hK ⊢; have HK := hid hK; clear hK hp; obtain ⟨q0, q1, q2⟩ := bx3 ((hb.block _ z3).trans X3); refine ⟨?_⟩; refine wp_load_rat rfl rfl q0 q1 q2 ?_; exact HK.out _ _ rfl rfB
  · intro ts W hb hB hp; have h7 : ts 7 = _ := hp 7 (by kernel_rfl); intro K hK; simp only [fillT, Nat.zero_add, Nat.reduceAdd, sA, sB, sC, h7] at hK ⊢; have HK := hid hK; clear hK hp; refine ⟨?_⟩; go_simp; refine (HQ1.out W).mono ?_; rintro e W9 ⟨r9, rfl, hr9, hb9⟩; exact HK.out _ _ hr9 hb9
  · intro ts W hb hB hp; have h6 := hp 6 (by kernel_rfl); have h8 := hp 8 (by kernel_rfl); intro K hK; simp only [fillT, Nat.zero_add, Nat.reduceAdd, sA, sB, sC] at hK ⊢; have HK := hid hK; clear hK hp; refine ⟨?_⟩; go_simp; refine (HMQ.out W _ _ h6 h8).mono ?_; rintro e W9 ⟨r9, rfl, hr9, hb9⟩; exact HK.out _ _ hr9 hb9
  intro ts W2 hb2 hh hap
  obtain ⟨g5, A5, n5, c5, p5, A5b, n5b, c5b, p5b, A5c, n5c, c5c, e5, lo5, z5, X5, N5⟩ := held_box (x := X) (hh 10 (by simp)) rfl (hh 12 (by simp)) rfl (hh 4 (by simp)) rfl
  obtain ⟨g6, A6, n6, c6, p6, A6b, n6b, c6b, p6b, A6c, n6c, c6c, e6, lo6, z6, X6, N6⟩ := held_boxQ (x := X) (hh 11 (by simp)) rfl (hh 13 (by simp)) rfl (hh 9 (by simp)) rfl
  simp only [fillT, Nat.zero_add, Nat.reduceAdd, sA, sB, sC, e5, e6]
  clear hh hap e5 e6
  generalize ts 0 = v0_W2 at *
  generalize ts 1 = v1_W2 at *
  generalize ts 2 = v2_W2 at *
  generalize ts 3 = v3_W2 at *
  generalize ts 4 = v4_W2 at *
  generalize ts 5 = v5_W2 at *
  generalize ts 6 = v6_W2 at *
  generalize ts 7 = v7_W2 at *
  generalize ts 8 = v8_W2 at *
  generalize ts 9 = v9_W2 at *
  clear ts
  replace X2 := (hb2.block _ z2).trans X2
  replace z2 := Nat.lt_of_lt_of_le z2 hb2.size
  replace X3 := (hb2.block _ z3).trans X3
  replace z3 := Nat.lt_of_lt_of_le z3 hb2.size
  replace B1 := below_trans B1 hb2
  clear hb2
  obtain ⟨f0, f1, f2, f3, f4, fy0, fy1, fy2, fy3, fy4⟩ := bx5 X5
  go_wp2_with fail
  refine (HSX.out _ B1 _ N5).mono ?_
  rintro e W3 ⟨v7, ok7, y7, rfl, N7, hb3, hq7⟩
  clear f0 f1 f2 f3 f4 fy0 fy1 fy2 fy3 fy4
  replace X2 := (hb3.block _ z2).trans X2
  replace z2 := Nat.lt_of_lt_of_le z2 hb3.size
  replace X3 := (hb3.block _ z3).trans X3
  replace z3 := Nat.lt_of_lt_of_le z3 hb3.size
  replace X5 := (hb3.block _ z5).trans X5
  replace z5 := Nat.lt_of_lt_of_le z5 hb3.size
  replace X6 := (hb3.block _ z6).trans X6
  replace z6 := Nat.lt_of_lt_of_le z6 hb3.size
  replace N5 := N5.below hb3
  replace N6 := IsQ.below N6 hb3
  replace B1 := below_trans B1 hb3
  clear hb3
  obtain ⟨A7, n7, c7, p7, A7b, n7b, c7b, p7b, A7c, n7c, c7c, qa, qb, qd, rfl, -⟩ := N7.parts
  have HQ7 := hid hq7
  clear hq7
  go_upto_region 3 with fail
  obtain ⟨W4, hW4⟩ : ∃ W4 : World, W4 = W3.alloc (.cells #[.slice A7 n7 c7, .bool p7, .slice A7b n7b c7b, .bool p7b, .slice A7c n7c c7c] 30) := ⟨_, rfl⟩
  rw [← hW4]
  have DW4 : Below W3.heap.size W3 W4 := by rw [hW4]; exact bel
  have X7 : W4.heap[W3.heap.size]? = some (.cells #[.slice A7 n7 c7, .bool p7, .slice A7b n7b c7b, .bool p7b, .slice A7c n7c c7c] 30 (0, 0)) := by rw [hW4]; exact heap_alloc_new _ _
  have z7 : W3.heap.size < W4.heap.size := by rw [hW4]; simp
  clear hW4
  replace X2 := (DW4.block _ z2).trans X2
  replace z2 := Nat.lt_of_lt_of_le z2 DW4.size
  replace X3 := (DW4.block _ z3).trans X3
  replace z3 := Nat.lt_of_lt_of_le z3 DW4.size
  replace X5 := (DW4.block _ z5).trans X5
  replace z5 := Nat.lt_of_lt_of_le z5 DW4.size
  replace X6 := (DW4.block _ z6).trans X6
  replace z6 := Nat.lt_of_lt_of_le z6 DW4.size
  replace N5 := N5.below DW4
  replace N7 := N7.below DW4
  replace N6 := IsQ.below N6 DW4
  replace B1 := below_trans B1 DW4
  clear DW4
  generalize W3.heap.size = g7 at *
  obtain ⟨f0, f1, f2, f3, f4, fy0, fy1, fy2, fy3, fy4⟩ := bx5 X6
  go_wp2_with fail
  refine (HRX.out _ _ N6).mono ?_
  rintro e W5 ⟨v9, ok9, y9, rfl, N9, hb5, hq9⟩
  clear f0 f1 f2 f3 f4 fy0 fy1 fy2 fy3 fy4
  replace X2 := (hb5.block _ z2).trans X2
  replace z2 := Nat.lt_of_lt_of_le z2 hb5.size
  replace X3 := (hb5.block _ z3).trans X3
  replace z3 := Nat.lt_of_lt_of_le z3 hb5.size
  replace X5 := (hb5.block _ z5).trans X5
  replace z5 := Nat.lt_of_lt_of_le z5 hb5.size
  replace X7 := (hb5.block _ z7).trans X7
  replace z7 := Nat.lt_of_lt_of_le z7 hb5.size
  replace N5 := N5.below hb5
  replace N7 := N7.below hb5
  replace B1 := below_trans B1 hb5
  clear hb5
  obtain ⟨A9, n9, c9, p9, A9b, n9b, c9b, p9b, A9c, n9c, c9c, qa, qb, qd, rfl, -⟩ := N9.parts
  obtain ⟨rfl, rfl, hyy⟩ := roots_agree HQ7.out hq9
  have SY : Sz y9 26 := by
    rcases HQ7.out with ⟨-, h⟩ | ⟨-, h, -⟩
    · exact sz_root HS5.out h.1
    · rw [h]; exact Sz.low Low.zero (by simp [wl_zero]) (by simp [wl_zero]) (by simp [wl_one])
  have HSM := hid (fun W (hb : Below w.heap.size w W) v u (hv : IsNum W v y9) (hu : IsNum W u y9) => mulN_any v u _ _ W hv hu 26 26 SY SY (by omega) (HT.out.below hb))
  have HIS := hid (fun W (hb : Below w.heap.size w W) v u (hv : IsNum W v y9) (hu : IsQ W u y9) => is_any v u y9 W hv hu (HT.out.below hb) 26 SY (by omega))
  have HSA := hid (fun W v u (hv : IsNum W v (y9.mul y9)) (hu : IsNum W u X) => sameN_any v u (y9.mul y9) X W hv hu 60 ((SY.mul SY).mono (by omega)) (HS5.out.mono (by omega)) (by omega))
  have HYY := hid hyy
  clear hyy hq9 SY HQ7 HS5
  go_upto_region 4 with fail
  obtain ⟨W6, hW6⟩ : ∃ W6 : World, W6 = W5.alloc (.cells #[.bool p9, .slice A9 n9 c9, .bool p9b, .slice A9b n9b c9b, .slice A9c n9c c9c] 34) := ⟨_, rfl⟩
  rw [← hW6]
  have DW6 : Below W5.heap.size W5 W6 := by rw [hW6]; exact bel
  have X9 : W6.heap[W5.heap.size]? = some (.cells #[.bool p9, .slice A9 n9 c9, .bool p9b, .slice A9b n9b c9b, .slice A9c n9c c9c] 34 (0, 0)) := by rw [hW6]; exact heap_alloc_new _ _
  have z9 : W5.heap.size < W6.heap.size := by rw [hW6]; simp
  clear hW6
  replace X2 := (DW6.block _ z2).trans X2
  replace z2 := Nat.lt_of_lt_of_le z2 DW6.size
  replace X3 := (DW6.block _ z3).trans X3
  replace z3 := Nat.lt_of_lt_of_le z3 DW6.size
  replace X5 := (DW6.block _ z5).trans X5
  replace z5 := Nat.lt_of_lt_of_le z5 DW6.size
  replace X7 := (DW6.block _ z7).trans X7
  replace z7 := Nat.lt_of_lt_of_le z7 DW6.size
  replace N5 := N5.below DW6
  replace N7 := N7.below DW6
  replace N9 := IsQ.below N9 DW6
  replace B1 := below_trans B1 DW6
  clear DW6
  generalize W5.heap.size = g9 at *
  have HSB := hid (fun W v u (hk : ok9 = true) (hv : IsNum W v (y9.mul y9)) (hu : IsNum W u X) => (show Calls Tryz.prog 23 #[v, u] W fun e w' => e = .returned (.bool true) ∧ Below W.heap.size W w' from by
    have := HSA.out W v u hv hu
    rw [decide_eq_true (HYY.out hk)] at this
    exact this))
  clear HSA HYY
  refine region_lin [.val (kIs (.bool ok9)), .val (kIs (.bool ok9)), .val (kIs (.bool false)), .val (kIs (.bool false)), .val (kIs (.agg #[.slice A7 n7 c7, .bool p7, .slice A7b n7b c7b, .bool p7b, .slice A7c n7c c7c])), .val (kIs (.agg #[.bool p9, .slice A9 n9 c9, .bool p9b, .slice A9b n9b c9b, .slice A9c n9c c9c])), .val (kIs (.bool true)), .val (kIs (.bool false)), .val (kIs (.bool false)), .val (kIs (.bool false)), .val (kIs (.bool ok9)), .val (kIs (.bool ok9)), .val ((kWhen ok9 (kIs (.agg #[.slice A7 n7 c7, .bool p7, .slice A7b n7b c7b, .bool p7b, .slice A7c n7c c7c])))), .val ((kWhen ok9 (kIs (.agg #[.slice A7 n7 c7, .bool p7, .slice A7b n7b c7b, .bool p7b, .slice A7c n7c c7c])))), .val ((kWhen ok9 (kNum (y9.mul y9)))), .val ((kWhen ok9 (kIs (.agg #[.slice A5 n5 c5, .bool p5, .slice A5b n5b c5b, .bool p5b, .slice A5c n5c c5c])))), .val ((kWhen ok9 (kIs (.bool true)))), .val ((kWhen ok9 (kIs (.bool false)))), .val (kIs (.bool false)), .val (kIs (.bool false))]
    (by kernel_rfl) (by kernel_rfl) (by kernel_rfl) (by kernel_rfl) (by kernel_rfl) ⟨Stab.b (stab_is _), Stab.b (stab_is _), Stab.b (stab_is _), Stab.b (stab_is _), Stab.b (stab_is _), Stab.b (stab_is _), Stab.b (stab_is _), Stab.b (stab_is _), Stab.b (stab_is _), Stab.b (stab_is _), Stab.b (stab_is _), Stab.b (stab_is _), Stab.b (stab_when _ (stab_is _)), Stab.b (stab_when _ (stab_is _)), Stab.b (stab_when _ (stab_num _)), Stab.b (stab_when _ (stab_is _)), Stab.b (stab_when _ (stab_is _)), Stab.b (stab_when _ (stab_is _)), Stab.b (stab_is _), Stab.b (stab_is _), trivial⟩ (by simp) ⟨?_, ?_, ?_, ?_, ?_, ?_, ?_, ?_, ?_, ?_, ?_, ?_, ?_, ?_, ?_, ?_, ?_, ?_, ?_, ?_, trivial⟩ ?_
  · exact obp
  · exact obp
  · intro ts W hb hB hp; have h0 : ts 0 = _ := hp 0 (by kernel_rfl); have h1 : ts 1 = _ := hp 1 (by kernel_rfl); intro K hK; simp only [fillT, Nat.zero_add, Nat.reduceAdd, sA, sB, sC, h0, h1] at hK ⊢; have HK := hid hK; clear hK hp; refine ⟨?_⟩; cases ok9 <;> (go_simp; exact HK.out _ _ rfl rfB)
  · intro ts W hb hB hp; have h2 : ts 2 = _ := hp 2 (by kernel_rfl); intro K hK; simp only [fillT, Nat.zero_add, Nat.reduceAdd, sA, sB, sC, h2] at hK ⊢; have HK := hid hK; clear hK hp; refine ⟨?_⟩; go_simp; exact HK.out _ _ rfl rfB
  · intro ts W hb hB hp; have h3 : ts 3 = _ := hp 3 (by kernel_rfl); refine Guarded.on h3 ?_; clear h3; intro K hK; simp only [fillT, Nat.zero_add, Nat.reduceAdd, sA, sB, sC] at hK ⊢; refine ⟨?_⟩; refine wp_load_row _ _ rfl (g7) rfl _ _ (0, 0) _ ((hb.block _ (z7)).trans X7) Tryz.underlying30 rfl (by kernel_rfl) ?_; exact hK _ _ rfl rfB
  · intro ts W hb hB hp; have h3 : ts 3 = _ := hp 3 (by kernel_rfl); refine Guarded.on h3 ?_; clear h3; intro K hK; simp only [fillT, Nat.zero_add, Nat.reduceAdd, sA, sB, sC] at hK ⊢; have HK := hid hK; clear hK hp; obtain ⟨f0, f1, f2, f3, f4, -⟩ := bx5 ((hb.block _ z9).trans X9); refine ⟨?_⟩; go_simp; exact HK.out _ _ rfl rfB
  · intro ts W hb hB hp; have h4 : ts 4 = _ := hp 4 (by kernel_rfl); have h5 : ts 5 = _ := hp 5 (by kernel_rfl); have h3 : ts 3 = _ := hp 3 (by kernel_rfl); refine Guarded.on h3 ?_; clear h3; intro K hK; simp only [fillT, Nat.zero_add, Nat.reduceAdd, sA, sB, sC, h4, h5] at hK ⊢; have HK := hid hK; clear hK hp; refine ⟨?_⟩; go_simp; refine (HIS.out W (below_trans B1 hb) _ _ (N7.below hb) (IsQ.below N9 hb)).mono ?_; rintro e W9 ⟨rfl, hb9⟩; exact HK.out _ _ rfl hb9
  · intro ts W hb hB hp; have h6 : ts 6 = _ := hp 6 (by kernel_rfl); have h3 : ts 3 = _ := hp 3 (by kernel_rfl); refine Guarded.on h3 ?_; clear h3; intro K hK; simp only [fillT, Nat.zero_add, Nat.reduceAdd, sA, sB, sC, h6] at hK ⊢; have HK := hid hK; clear hK hp; refine ⟨?_⟩; go_simp; exact HK.out _ _ rfl rfB
  · intro ts W hb hB hp; have h3 : ts 3 = _ := hp 3 (by kernel_rfl); have h7 : ts 7 = _ := hp 7 (by kernel_rfl); intro K hK; simp only [fillT, Nat.zero_add, Nat.reduceAdd, sA, sB, sC, h3, h7] at hK ⊢; have HK := hid hK; clear hK hp; refine ⟨?_⟩; go_simp; exact HK.out _ _ rfl rfB
  · intro ts W hb hB hp; have h8 : ts 8 = _ := hp 8 (by kernel_rfl); intro K hK; simp only [fillT, Nat.zero_add, Nat.reduceAdd, sA, sB, sC, h8] at hK ⊢; have HK := hid hK; clear hK hp; refine ⟨?_⟩; go_simp; exact HK.out _ _ rfl rfB
  · intro ts W hb hB hp; have h9 : ts 9 = _ := hp 9 (by kernel_rfl); refine Guarded.on h9 ?_; clear h9; intro K hK; simp only [fillT, Nat.zero_add, Nat.reduceAdd, sA, sB, sC] at hK ⊢; have HK := hid hK; clear hK hp; refine ⟨?_⟩; go_simp; exact HK.out _ _ rfl rfB
  · intro ts W hb hB hp; have h10 : ts 10 = _ := hp 10 (by kernel_rfl); have h9 : ts 9 = _ := hp 9 (by kernel_rfl); refine Guarded.on h9 ?_; clear h9; intro K hK; simp only [fillT, Nat.zero_add, Nat.reduceAdd, sA, sB, sC, h10] at hK ⊢; have HK := hid hK; clear hK hp; refine ⟨?_⟩; go_simp; exact HK.out _ _ rfl rfB
  · intro ts W hb hB hp
    have h11 : ts 11 = _ := hp 11 (by kernel_rfl)
    cases ok9
    · exact Guarded.off h11 (by decide) (fun c => by cases c)
    · refine Guarded.on h11 ?_; clear h11; intro K hK; simp only [fillT, Nat.zero_add, Nat.reduceAdd, sA, sB, sC] at hK ⊢; refine ⟨?_⟩; refine wp_load_row _ _ rfl (g7) rfl _ _ (0, 0) _ ((hb.block _ z7).trans X7) Tryz.underlying30 rfl (by kernel_rfl) ?_; exact hK _ _ (fun _ => rfl) rfB
  · intro ts W hb hB hp
    have h11 : ts 11 = _ := hp 11 (by kernel_rfl)
    cases ok9
    · exact Guarded.off h11 (by decide) (fun c => by cases c)
    · refine Guarded.on h11 ?_; clear h11; intro K hK; simp only [fillT, Nat.zero_add, Nat.reduceAdd, sA, sB, sC] at hK ⊢; refine ⟨?_⟩; refine wp_load_row _ _ rfl (g7) rfl _ _ (0, 0) _ ((hb.block _ z7).trans X7) Tryz.underlying30 rfl (by kernel_rfl) ?_; exact hK _ _ (fun _ => rfl) rfB
  · intro ts W hb hB hp
    have h11 : ts 11 = _ := hp 11 (by kernel_rfl)
    cases ok9
    · exact Guarded.off h11 (by decide) (fun c => by cases c)
    · refine Guarded.on h11 ?_; clear h11; have h12 := hp 12 (by kernel_rfl) rfl; have h13 := hp 13 (by kernel_rfl) rfl; intro K hK; have e12 : ts 12 = _ := h12; have e13 : ts 13 = _ := h13; simp only [fillT, Nat.zero_add, Nat.reduceAdd, sA, sB, sC, e12, e13] at hK ⊢; have HK := hid hK; clear hK hp; refine ⟨?_⟩; go_simp; refine (HSM.out W (below_trans B1 hb) _ _ (N7.below hb) (N7.below hb)).mono ?_; rintro e W9 ⟨r9, rfl, hr9, hb9⟩; exact HK.out _ _ (fun _ => hr9) hb9
  · intro ts W hb hB hp
    have h11 : ts 11 = _ := hp 11 (by kernel_rfl)
    cases ok9
    · exact Guarded.off h11 (by decide) (fun c => by cases c)
    · refine Guarded.on h11 ?_; clear h11; intro K hK; simp only [fillT, Nat.zero_add, Nat.reduceAdd, sA, sB, sC] at hK ⊢; refine ⟨?_⟩; refine wp_load_row _ _ rfl (g5) rfl _ _ (0, 0) _ ((hb.block _ z5).trans X5) Tryz.underlying30 rfl (by kernel_rfl) ?_; exact hK _ _ (fun _ => rfl) rfB
  · intro ts W hb hB hp
    have h11 : ts 11 = _ := hp 11 (by kernel_rfl)
    cases ok9
    · exact Guarded.off h11 (by decide) (fun c => by cases c)
    · refine Guarded.on h11 ?_; clear h11; have h14 := hp 14 (by kernel_rfl) rfl; have h15 := hp 15 (by kernel_rfl) rfl; intro K hK; have e15 : ts 15 = _ := h15; simp only [fillT, Nat.zero_add, Nat.reduceAdd, sA, sB, sC, e15] at hK ⊢; have HK := hid hK; clear hK hp; refine ⟨?_⟩; go_simp; refine (HSB.out W _ _ rfl h14 (N5.below hb)).mono ?_; rintro e W9 ⟨rfl, hb9⟩; exact HK.out _ _ (fun _ => rfl) hb9
  · intro ts W hb hB hp
    have h11 : ts 11 = _ := hp 11 (by kernel_rfl)
    cases ok9
    · exact Guarded.off h11 (by decide) (fun c => by cases c)
    · refine Guarded.on h11 ?_; clear h11; have h16 := hp 16 (by kernel_rfl) rfl; intro K hK; have e16 : ts 16 = _ := h16; simp only [fillT, Nat.zero_add, Nat.reduceAdd, sA, sB, sC, e16] at hK ⊢; have HK := hid hK; clear hK hp; refine ⟨?_⟩; go_simp; exact HK.out _ _ (fun _ => rfl) rfB
  · intro ts W hb hB hp; have h9 : ts 9 = _ := hp 9 (by kernel_rfl); have h11 : ts 11 = _ := hp 11 (by kernel_rfl); have h17 := hp 17 (by kernel_rfl); refine Guarded.on h9 ?_; clear h9; intro K hK
    cases ok9
    · simp only [fillT, Nat.zero_add, Nat.reduceAdd, sA, sB, sC, h11] at hK ⊢; have HK := hid hK; clear hK hp; refine ⟨?_⟩; go_simp; exact HK.out _ _ rfl rfB
    · have e17 : ts 17 = _ := h17 rfl; simp only [fillT, Nat.zero_add, Nat.reduceAdd, sA, sB, sC, h11, e17] at hK ⊢; have HK := hid hK; clear hK hp; refine ⟨?_⟩; go_simp; exact HK.out _ _ rfl rfB
  · intro ts W hb hB hp; have h9 : ts 9 = _ := hp 9 (by kernel_rfl); have h18 : ts 18 = _ := hp 18 (by kernel_rfl); intro K hK; simp only [fillT, Nat.zero_add, Nat.reduceAdd, sA, sB, sC, h9, h18] at hK ⊢; have HK := hid hK; clear hK hp; refine ⟨?_⟩; go_simp; exact HK.out _ _ rfl rfB
  intro ts W7 hbq hh hap
  have e19 := held_is (hh 19 (by simp)) rfl
  simp only [fillT, Nat.zero_add, Nat.reduceAdd, sA, sB, sC, e19]
  clear hh hap e19
  generalize ts 0 = v0_W7 at *
  generalize ts 1 = v1_W7 at *
  generalize ts 2 = v2_W7 at *
  generalize ts 3 = v3_W7 at *
  generalize ts 4 = v4_W7 at *
  generalize ts 5 = v5_W7 at *
  generalize ts 6 = v6_W7 at *
  generalize ts 7 = v7_W7 at *
  generalize ts 8 = v8_W7 at *
  generalize ts 9 = v9_W7 at *
  generalize ts 10 = v10_W7 at *
  generalize ts 11 = v11_W7 at *
  generalize ts 12 = v12_W7 at *
  generalize ts 13 = v13_W7 at *
  generalize ts 14 = v14_W7 at *
  generalize ts 15 = v15_W7 at *
  generalize ts 16 = v16_W7 at *
  generalize ts 17 = v17_W7 at *
  generalize ts 18 = v18_W7 at *
  clear ts
  replace X2 := (hbq.block _ z2).trans X2
  replace z2 := Nat.lt_of_lt_of_le z2 hbq.size
  replace X3 := (hbq.block _ z3).trans X3
  replace z3 := Nat.lt_of_lt_of_le z3 hbq.size
  replace B1 := below_trans B1 hbq
  clear hbq
  go_upto_region 6 with fail
  refine region_lin [.val (kIs (.agg #[.int .i64 p0, .int .i64 q0, .int .i64 r0])), .val (kNum (A)), .box 30 zNum, .put 2 1]
    (by kernel_rfl) (by kernel_rfl) (by kernel_rfl) (by kernel_rfl) (by kernel_rfl) ⟨stab_is _, stab_num _, trivial⟩ (by simp) ⟨?_, ?_, alloc_num, store_num _, trivial⟩ ?_
  · intro ts W hb hB hp; intro K hK; simp only [fillT, Nat.zero_add, Nat.reduceAdd, sA, sB, sC] at hK ⊢; have HK := hid hK; clear hK hp; obtain ⟨q0, q1, q2⟩ := bx3 ((hb.block _ z2).trans X2); refine ⟨?_⟩; refine wp_load_rat rfl rfl q0 q1 q2 ?_; exact HK.out _ _ rfl rfB
  · intro ts W hb hB hp; have h0 : ts 0 = _ := hp 0 (by kernel_rfl); intro K hK; simp only [fillT, Nat.zero_add, Nat.reduceAdd, sA, sB, sC, h0] at hK ⊢; have HK := hid hK; clear hK hp; refine ⟨?_⟩; go_simp; refine (HN0.out W (below_trans B1 hb)).mono ?_; rintro e W9 ⟨r9, rfl, hr9, hb9⟩; exact HK.out _ _ hr9 hb9
  intro ts W8 hb2 hh hap
  obtain ⟨g11, A11, n11, c11, p11, A11b, n11b, c11b, p11b, A11c, n11c, c11c, e11, lo11, z11, X11, N11⟩ := held_box (x := A) (hh 2 (by simp)) rfl (hh 3 (by simp)) rfl (hh 1 (by simp)) rfl
  simp only [fillT, Nat.zero_add, Nat.reduceAdd, sA, sB, sC, e11]
  clear hh hap e11
  generalize ts 0 = v0_W8 at *
  generalize ts 1 = v1_W8 at *
  clear ts
  replace B1 := below_trans B1 hb2
  clear hb2
  obtain ⟨f0, f1, f2, f3, f4, fy0, fy1, fy2, fy3, fy4⟩ := bx5 X11
  go_wp2_with fail
  refine (HZM.out _ B1 _ _ N11 N11).mono ?_
  rintro e W9 ⟨u9, rfl, hu9, hb9⟩
  clear f0 f1 f2 f3 f4 fy0 fy1 fy2 fy3 fy4
  replace X11 := (hb9.block _ z11).trans X11
  replace z11 := Nat.lt_of_lt_of_le z11 hb9.size
  replace N11 := N11.below hb9
  replace B1 := below_trans B1 hb9
  clear hb9
  go_wp2_with fail
  refine (HSZ.out _ B1 _ hu9).mono ?_
  rintro e W10 ⟨v12, ok12, y12, rfl, N12, hb10, hq12⟩
  replace X11 := (hb10.block _ z11).trans X11
  replace z11 := Nat.lt_of_lt_of_le z11 hb10.size
  replace N11 := N11.below hb10
  replace B1 := below_trans B1 hb10
  clear hb10
  clear hu9
  obtain ⟨A12, n12, c12, p12, A12b, n12b, c12b, p12b, A12c, n12c, c12c, sa, sb, sd, rfl, -⟩ := N12.parts
  rcases hq12 with ⟨rfl, hpri⟩ | ⟨-, -, hno⟩
  rotate_left
  · exact absurd ⟨A, rfl⟩ hno
  have hcase := pri_sq hpri
  have hnn := hpri.re_nn
  have S12 : Sz y12 26 := sz_root HSZZ.out hpri.1
  have HSS := hid (fun W v u (hv : IsNum W v y12) (hu : IsNum W u A) => sameN_any v u y12 A W hv hu 26 S12 (HZ0.out.mono (by omega)) (by omega))
  have HSN := hid (fun W v u (hv : IsNum W v y12) (hu : IsNum W u A.neg) => sameN_any v u y12 A.neg W hv hu 26 S12 (HZ0.out.neg.mono (by omega)) (by omega))
  have HNG := hid (fun W v (hv : IsNum W v A) => negN_any v A W hv)
  have HRE := hid (fun W (hb : Below w.heap.size w W) v (hv : IsNum W v y12) => reN_any v y12 W hv (HT.out.below hb) 26 S12 (by omega))
  have HI0 := hid (fun W => int_any 0 W (by omega) (by omega))
  have HCM := hid (fun W v u (hv : IsNum W v y12.real) (hu : IsNum W u (.int 0)) => cmpN_any' v u y12.real (.int 0) W hv hu 26 1 S12.real (Sz.int (by simp [wl_zero]) (by omega)) (by omega))
  have hcz : 0 ≤ cmpC y12.real (.int 0) := by
    have h0 : 0 ≤ y12.re := hnn
    have e : y12.real.re - (Cx.int 0).re = y12.re := by simp only [Cx.real, Cx.int]; grind
    have e2 : y12.real.im - (Cx.int 0).im = 0 := by simp only [Cx.real, Cx.int]; grind
    have h1 : 0 ≤ sgnR (y12.real.re - (Cx.int 0).re) := by
      rw [e]
      unfold sgnR
      have := Rat.num_nonneg.2 h0
      rcases Int.lt_or_eq_of_le this with c | c
      · rw [Int.sign_eq_one_of_pos c]; omega
      · rw [← c]; simp
    have h2 : 0 ≤ sgnR (y12.real.im - (Cx.int 0).im) := by
      rw [e2]
      decide
    unfold cmpC
    split
    · exact h1
    · exact h2
  generalize cmpC y12.real (.int 0) = cz at *
  have hge : decide (cz ≥ 0) = true := decide_eq_true hcz
  clear hpri S12 hnn
  go_upto_region 8 with fail
  obtain ⟨W11, hW11⟩ : ∃ W11 : World, W11 = W10.alloc (.cells #[.slice A12 n12 c12, .bool p12, .slice A12b n12b c12b, .bool p12b, .slice A12c n12c c12c] 30) := ⟨_, rfl⟩
  rw [← hW11]
  have DW11 : Below W10.heap.size W10 W11 := by rw [hW11]; exact bel
  have X12 : W11.heap[W10.heap.size]? = some (.cells #[.slice A12 n12 c12, .bool p12, .slice A12b n12b c12b, .bool p12b, .slice A12c n12c c12c] 30 (0, 0)) := by rw [hW11]; exact heap_alloc_new _ _
  have z12 : W10.heap.size < W11.heap.size := by rw [hW11]; simp
  clear hW11
  replace X11 := (DW11.block _ z11).trans X11
  replace z11 := Nat.lt_of_lt_of_le z11 DW11.size
  replace N11 := N11.below DW11
  replace N12 := N12.below DW11
  replace B1 := below_trans B1 DW11
  clear DW11
  generalize W10.heap.size = g12 at *
  have HGE := hid hge
  clear hge hcz
  by_cases keq : y12 = A
  · have HSS2 := hid (fun W v u (hv : IsNum W v y12) (hu : IsNum W u A) => (show Calls Tryz.prog 23 #[v, u] W fun e w' => e = .returned (.bool true) ∧ Below W.heap.size W w' from by
      have := HSS.out W v u hv hu
      rw [decide_eq_true keq] at this
      exact this))
    clear keq hcase HSS HSN
    refine region_lin [.val (kIs (.bool true)), .val (kIs (.bool true)), .val (kIs (.agg #[.slice A12 n12 c12, .bool p12, .slice A12b n12b c12b, .bool p12b, .slice A12c n12c c12c])), .val (kIs (.agg #[.slice A11 n11 c11, .bool p11, .slice A11b n11b c11b, .bool p11b, .slice A11c n11c c11c])), .val (kIs (.bool true)), .val (kIs (.bool true)), .val (kIs (undef)), .val (kIs (undef)), .val (kIs (undef)), .val (kIs (undef)), .val (kIs (.bool true)), .val (kIs (.bool true)), .val (kIs (.bool true)), .val (kIs (.agg #[.slice A12 n12 c12, .bool p12, .slice A12b n12b c12b, .bool p12b, .slice A12c n12c c12c])), .val (kNum (y12.real)), .val (kNum (.int 0)), .val (kIs (.int .i64 cz)), .val (kIs (.bool true)), .val (kIs (.bool true)), .val (kIs (.bool true)), .val (kIs (.bool true)), .val (kIs (.bool true)), .val (kIs (.bool true))]
      (by kernel_rfl) (by kernel_rfl) (by kernel_rfl) (by kernel_rfl) (by kernel_rfl) ⟨Stab.b (stab_is _), Stab.b (stab_is _), Stab.b (stab_is _), Stab.b (stab_is _), Stab.b (stab_is _), Stab.b (stab_is _), Stab.b (stab_is _), Stab.b (stab_is _), Stab.b (stab_is _), Stab.b (stab_is _), Stab.b (stab_is _), Stab.b (stab_is _), Stab.b (stab_is _), Stab.b (stab_is _), Stab.b (stab_num _), Stab.b (stab_num _), Stab.b (stab_is _), Stab.b (stab_is _), Stab.b (stab_is _), Stab.b (stab_is _), Stab.b (stab_is _), Stab.b (stab_is _), Stab.b (stab_is _), trivial⟩ (by simp) ⟨?_, ?_, ?_, ?_, ?_, ?_, ?_, ?_, ?_, ?_, ?_, ?_, ?_, ?_, ?_, ?_, ?_, ?_, ?_, ?_, ?_, ?_, ?_, trivial⟩ ?_
    · exact obp
    · intro ts W hb hB hp; have h0 : ts 0 = _ := hp 0 (by kernel_rfl); intro K hK; simp only [fillT, Nat.zero_add, Nat.reduceAdd, sA, sB, sC, h0] at hK ⊢; have HK := hid hK; clear hK hp; refine ⟨?_⟩; go_simp; exact HK.out _ _ rfl rfB
    · intro ts W hb hB hp; have h1 : ts 1 = _ := hp 1 (by kernel_rfl); refine Guarded.on h1 ?_; clear h1; intro K hK; simp only [fillT, Nat.zero_add, Nat.reduceAdd, sA, sB, sC] at hK ⊢; refine ⟨?_⟩; refine wp_load_row _ _ rfl (g12) rfl _ _ (0, 0) _ ((hb.block _ (z12)).trans X12) Tryz.underlying30 rfl (by kernel_rfl) ?_; exact hK _ _ rfl rfB
    · intro ts W hb hB hp; have h1 : ts 1 = _ := hp 1 (by kernel_rfl); refine Guarded.on h1 ?_; clear h1; intro K hK; simp only [fillT, Nat.zero_add, Nat.reduceAdd, sA, sB, sC] at hK ⊢; refine ⟨?_⟩; refine wp_load_row _ _ rfl (g11) rfl _ _ (0, 0) _ ((hb.block _ (z11)).trans X11) Tryz.underlying30 rfl (by kernel_rfl) ?_; exact hK _ _ rfl rfB
    · intro ts W hb hB hp; have h2 : ts 2 = _ := hp 2 (by kernel_rfl); have h3 : ts 3 = _ := hp 3 (by kernel_rfl); have h1 : ts 1 = _ := hp 1 (by kernel_rfl); refine Guarded.on h1 ?_; clear h1; intro K hK; simp only [fillT, Nat.zero_add, Nat.reduceAdd, sA, sB, sC, h2, h3] at hK ⊢; have HK := hid hK; clear hK hp; refine ⟨?_⟩; go_simp; refine (HSS2.out W _ _ (N12.below hb) (N11.below hb)).mono ?_; rintro e W9 ⟨rfl, hb9⟩; exact HK.out _ _ rfl hb9
    · intro ts W hb hB hp; have h4 : ts 4 = _ := hp 4 (by kernel_rfl); have h1 : ts 1 = _ := hp 1 (by kernel_rfl); refine Guarded.on h1 ?_; clear h1; intro K hK; simp only [fillT, Nat.zero_add, Nat.reduceAdd, sA, sB, sC, h4] at hK ⊢; have HK := hid hK; clear hK hp; refine ⟨?_⟩; go_simp; exact HK.out _ _ rfl rfB
    · intro ts W hb hB hp; have h5 : ts 5 = _ := hp 5 (by kernel_rfl); exact Guarded.off h5 (by decide) rfl
    · intro ts W hb hB hp; have h5 : ts 5 = _ := hp 5 (by kernel_rfl); exact Guarded.off h5 (by decide) rfl
    · intro ts W hb hB hp; have h5 : ts 5 = _ := hp 5 (by kernel_rfl); exact Guarded.off h5 (by decide) rfl
    · intro ts W hb hB hp; have h5 : ts 5 = _ := hp 5 (by kernel_rfl); exact Guarded.off h5 (by decide) rfl
    · intro ts W hb hB hp; have h5 : ts 5 = _ := hp 5 (by kernel_rfl); have h1 : ts 1 = _ := hp 1 (by kernel_rfl); refine Guarded.on h1 ?_; clear h1; intro K hK; simp only [fillT, Nat.zero_add, Nat.reduceAdd, sA, sB, sC, h5] at hK ⊢; have HK := hid hK; clear hK hp; refine ⟨?_⟩; go_simp; exact HK.out _ _ rfl rfB
    · intro ts W hb hB hp; have h1 : ts 1 = _ := hp 1 (by kernel_rfl); have h10 : ts 10 = _ := hp 10 (by kernel_rfl); intro K hK; simp only [fillT, Nat.zero_add, Nat.reduceAdd, sA, sB, sC, h1, h10] at hK ⊢; have HK := hid hK; clear hK hp; refine ⟨?_⟩; go_simp; exact HK.out _ _ rfl rfB
    · intro ts W hb hB hp; have h11 : ts 11 = _ := hp 11 (by kernel_rfl); intro K hK; simp only [fillT, Nat.zero_add, Nat.reduceAdd, sA, sB, sC, h11] at hK ⊢; have HK := hid hK; clear hK hp; refine ⟨?_⟩; go_simp; exact HK.out _ _ rfl rfB
    · intro ts W hb hB hp; have h12 : ts 12 = _ := hp 12 (by kernel_rfl); refine Guarded.on h12 ?_; clear h12; intro K hK; simp only [fillT, Nat.zero_add, Nat.reduceAdd, sA, sB, sC] at hK ⊢; refine ⟨?_⟩; refine wp_load_row _ _ rfl (g12) rfl _ _ (0, 0) _ ((hb.block _ (z12)).trans X12) Tryz.underlying30 rfl (by kernel_rfl) ?_; exact hK _ _ rfl rfB
    · intro ts W hb hB hp; have h13 : ts 13 = _ := hp 13 (by kernel_rfl); have h12 : ts 12 = _ := hp 12 (by kernel_rfl); refine Guarded.on h12 ?_; clear h12; intro K hK; simp only [fillT, Nat.zero_add, Nat.reduceAdd, sA, sB, sC, h13] at hK ⊢; have HK := hid hK; clear hK hp; refine ⟨?_⟩; go_simp; refine (HRE.out W (below_trans B1 hb) _ (N12.below hb)).mono ?_; rintro e W9 ⟨r9, rfl, hr9, hb9⟩; exact HK.out _ _ hr9 hb9
    · intro ts W hb hB hp; have h12 : ts 12 = _ := hp 12 (by kernel_rfl); refine Guarded.on h12 ?_; clear h12; intro K hK; simp only [fillT, Nat.zero_add, Nat.reduceAdd, sA, sB, sC] at hK ⊢; have HK := hid hK; clear hK hp; refine ⟨?_⟩; go_simp; refine (HI0.out W).mono ?_; rintro e W9 ⟨r9, rfl, hr9, hb9⟩; exact HK.out _ _ hr9 hb9
    · intro ts W hb hB hp; have h14 : IsNum W (ts 14) (y12.real) := hp 14 (by kernel_rfl); have h15 : IsNum W (ts 15) (.int 0) := hp 15 (by kernel_rfl); have h12 : ts 12 = _ := hp 12 (by kernel_rfl); refine Guarded.on h12 ?_; clear h12; intro K hK; simp only [fillT, Nat.zero_add, Nat.reduceAdd, sA, sB, sC] at hK ⊢; have HK := hid hK; clear hK hp; refine ⟨?_⟩; go_simp; refine (HCM.out W _ _ h14 h15).mono ?_; rintro e W9 ⟨rfl, hb9⟩; exact HK.out _ _ rfl hb9
    · intro ts W hb hB hp; have h16 : ts 16 = _ := hp 16 (by kernel_rfl); have h12 : ts 12 = _ := hp 12 (by kernel_rfl); refine Guarded.on h12 ?_; clear h12; intro K hK; simp only [fillT, Nat.zero_add, Nat.reduceAdd, sA, sB, sC, h16] at hK ⊢; have HK := hid hK; clear hK hp; refine ⟨?_⟩; have hge := HGE.out; go_simp; exact HK.out _ _ (by first | rfl | simp [hge]) rfB
    · intro ts W hb hB hp; have h12 : ts 12 = _ := hp 12 (by kernel_rfl); have h17 : ts 17 = _ := hp 17 (by kernel_rfl); intro K hK; simp only [fillT, Nat.zero_add, Nat.reduceAdd, sA, sB, sC, h12, h17] at hK ⊢; have HK := hid hK; clear hK hp; refine ⟨?_⟩; go_simp; exact HK.out _ _ rfl rfB
    · intro ts W hb hB hp; have h18 : ts 18 = _ := hp 18 (by kernel_rfl); intro K hK; simp only [fillT, Nat.zero_add, Nat.reduceAdd, sA, sB, sC, h18] at hK ⊢; have HK := hid hK; clear hK hp; refine ⟨?_⟩; go_simp; exact HK.out _ _ rfl rfB
    · intro ts W hb hB hp; have h19 : ts 19 = _ := hp 19 (by kernel_rfl); refine Guarded.on h19 ?_; clear h19; intro K hK; simp only [fillT, Nat.zero_add, Nat.reduceAdd, sA, sB, sC] at hK ⊢; have HK := hid hK; clear hK hp; refine ⟨?_⟩; go_simp; refine (awake_any W (HT.out.below (below_trans B1 hb))).mono ?_; rintro e W9 ⟨rfl, hb9⟩; exact HK.out _ _ rfl hb9
    · intro ts W hb hB hp; have h19 : ts 19 = _ := hp 19 (by kernel_rfl); have h20 : ts 20 = _ := hp 20 (by kernel_rfl); intro K hK; simp only [fillT, Nat.zero_add, Nat.reduceAdd, sA, sB, sC, h19, h20] at hK ⊢; have HK := hid hK; clear hK hp; refine ⟨?_⟩; go_simp; exact HK.out _ _ rfl rfB
    · intro ts W hb hB hp; have h21 : ts 21 = _ := hp 21 (by kernel_rfl); intro K hK; simp only [fillT, Nat.zero_add, Nat.reduceAdd, sA, sB, sC, h21] at hK ⊢; have HK := hid hK; clear hK hp; refine ⟨?_⟩; go_simp; exact HK.out _ _ rfl rfB
    intro ts W12 hbq hh hap
    have e22 := held_is (hh 22 (by simp)) rfl
    simp only [fillT, Nat.zero_add, Nat.reduceAdd, sA, sB, sC, e22]
    clear hh hap e22
    generalize ts 0 = v0_W12 at *
    generalize ts 1 = v1_W12 at *
    generalize ts 2 = v2_W12 at *
    generalize ts 3 = v3_W12 at *
    generalize ts 4 = v4_W12 at *
    generalize ts 5 = v5_W12 at *
    generalize ts 6 = v6_W12 at *
    generalize ts 7 = v7_W12 at *
    generalize ts 8 = v8_W12 at *
    generalize ts 9 = v9_W12 at *
    generalize ts 10 = v10_W12 at *
    generalize ts 11 = v11_W12 at *
    generalize ts 12 = v12_W12 at *
    generalize ts 13 = v13_W12 at *
    generalize ts 14 = v14_W12 at *
    generalize ts 15 = v15_W12 at *
    generalize ts 16 = v16_W12 at *
    generalize ts 17 = v17_W12 at *
    generalize ts 18 = v18_W12 at *
    generalize ts 19 = v19_W12 at *
    generalize ts 20 = v20_W12 at *
    generalize ts 21 = v21_W12 at *
    clear ts
    go_wp2
    go_ret
    exact ⟨rfl, below_trans B1 hbq⟩
  · have HSS2 := hid (fun W v u (hv : IsNum W v y12) (hu : IsNum W u A) => (show Calls Tryz.prog 23 #[v, u] W fun e w' => e = .returned (.bool false) ∧ Below W.heap.size W w' from by
      have := HSS.out W v u hv hu
      rw [decide_eq_false keq] at this
      exact this))
    have HSN2 := hid (fun W v u (hv : IsNum W v y12) (hu : IsNum W u A.neg) => (show Calls Tryz.prog 23 #[v, u] W fun e w' => e = .returned (.bool true) ∧ Below W.heap.size W w' from by
      have := HSN.out W v u hv hu
      rw [decide_eq_true (hcase.resolve_left keq)] at this
      exact this))
    clear keq hcase HSS HSN
    refine region_lin [.val (kIs (.bool true)), .val (kIs (.bool true)), .val (kIs (.agg #[.slice A12 n12 c12, .bool p12, .slice A12b n12b c12b, .bool p12b, .slice A12c n12c c12c])), .val (kIs (.agg #[.slice A11 n11 c11, .bool p11, .slice A11b n11b c11b, .bool p11b, .slice A11c n11c c11c])), .val (kIs (.bool false)), .val (kIs (.bool false)), .val (kIs (.agg #[.slice A12 n12 c12, .bool p12, .slice A12b n12b c12b, .bool p12b, .slice A12c n12c c12c])), .val (kIs (.agg #[.slice A11 n11 c11, .bool p11, .slice A11b n11b c11b, .bool p11b, .slice A11c n11c c11c])), .val (kNum (A.neg)), .val (kIs (.bool true)), .val (kIs (.bool true)), .val (kIs (.bool true)), .val (kIs (.bool true)), .val (kIs (.agg #[.slice A12 n12 c12, .bool p12, .slice A12b n12b c12b, .bool p12b, .slice A12c n12c c12c])), .val (kNum (y12.real)), .val (kNum (.int 0)), .val (kIs (.int .i64 cz)), .val (kIs (.bool true)), .val (kIs (.bool true)), .val (kIs (.bool true)), .val (kIs (.bool true)), .val (kIs (.bool true)), .val (kIs (.bool true))]
      (by kernel_rfl) (by kernel_rfl) (by kernel_rfl) (by kernel_rfl) (by kernel_rfl) ⟨Stab.b (stab_is _), Stab.b (stab_is _), Stab.b (stab_is _), Stab.b (stab_is _), Stab.b (stab_is _), Stab.b (stab_is _), Stab.b (stab_is _), Stab.b (stab_is _), Stab.b (stab_num _), Stab.b (stab_is _), Stab.b (stab_is _), Stab.b (stab_is _), Stab.b (stab_is _), Stab.b (stab_is _), Stab.b (stab_num _), Stab.b (stab_num _), Stab.b (stab_is _), Stab.b (stab_is _), Stab.b (stab_is _), Stab.b (stab_is _), Stab.b (stab_is _), Stab.b (stab_is _), Stab.b (stab_is _), trivial⟩ (by simp) ⟨?_, ?_, ?_, ?_, ?_, ?_, ?_, ?_, ?_, ?_, ?_, ?_, ?_, ?_, ?_, ?_, ?_, ?_, ?_, ?_, ?_, ?_, ?_, trivial⟩ ?_
    · exact obp
    · intro ts W hb hB hp; have h0 : ts 0 = _ := hp 0 (by kernel_rfl); intro K hK; simp only [fillT, Nat.zero_add, Nat.reduceAdd, sA, sB, sC, h0] at hK ⊢; have HK := hid hK; clear hK hp; refine ⟨?_⟩; go_simp; exact HK.out _ _ rfl rfB
    · intro ts W hb hB hp; have h1 : ts 1 = _ := hp 1 (by kernel_rfl); refine Guarded.on h1 ?_; clear h1; intro K hK; simp only [fillT, Nat.zero_add, Nat.reduceAdd, sA, sB, sC] at hK ⊢; refine ⟨?_⟩; refine wp_load_row _ _ rfl (g12) rfl _ _ (0, 0) _ ((hb.block _ (z12)).trans X12) Tryz.underlying30 rfl (by kernel_rfl) ?_; exact hK _ _ rfl rfB
    · intro ts W hb hB hp; have h1 : ts 1 = _ := hp 1 (by kernel_rfl); refine Guarded.on h1 ?_; clear h1; intro K hK; simp only [fillT, Nat.zero_add, Nat.reduceAdd, sA, sB, sC] at hK ⊢; refine ⟨?_⟩; refine wp_load_row _ _ rfl (g11) rfl _ _ (0, 0) _ ((hb.block _ (z11)).trans X11) Tryz.underlying30 rfl (by kernel_rfl) ?_; exact hK _ _ rfl rfB
    · intro ts W hb hB hp; have h2 : ts 2 = _ := hp 2 (by kernel_rfl); have h3 : ts 3 = _ := hp 3 (by kernel_rfl); have h1 : ts 1 = _ := hp 1 (by kernel_rfl); refine Guarded.on h1 ?_; clear h1; intro K hK; simp only [fillT, Nat.zero_add, Nat.reduceAdd, sA, sB, sC, h2, h3] at hK ⊢; have HK := hid hK; clear hK hp; refine ⟨?_⟩; go_simp; refine (HSS2.out W _ _ (N12.below hb) (N11.below hb)).mono ?_; rintro e W9 ⟨rfl, hb9⟩; exact HK.out _ _ rfl hb9
    · intro ts W hb hB hp; have h4 : ts 4 = _ := hp 4 (by kernel_rfl); have h1 : ts 1 = _ := hp 1 (by kernel_rfl); refine Guarded.on h1 ?_; clear h1; intro K hK; simp only [fillT, Nat.zero_add, Nat.reduceAdd, sA, sB, sC, h4] at hK ⊢; have HK := hid hK; clear hK hp; refine ⟨?_⟩; go_simp; exact HK.out _ _ rfl rfB
    · intro ts W hb hB hp; have h5 : ts 5 = _ := hp 5 (by kernel_rfl); refine Guarded.on h5 ?_; clear h5; intro K hK; simp only [fillT, Nat.zero_add, Nat.reduceAdd, sA, sB, sC] at hK ⊢; refine ⟨?_⟩; refine wp_load_row _ _ rfl (g12) rfl _ _ (0, 0) _ ((hb.block _ (z12)).trans X12) Tryz.underlying30 rfl (by kernel_rfl) ?_; exact hK _ _ rfl rfB
    · intro ts W hb hB hp; have h5 : ts 5 = _ := hp 5 (by kernel_rfl); refine Guarded.on h5 ?_; clear h5; intro K hK; simp only [fillT, Nat.zero_add, Nat.reduceAdd, sA, sB, sC] at hK ⊢; refine ⟨?_⟩; refine wp_load_row _ _ rfl (g11) rfl _ _ (0, 0) _ ((hb.block _ (z11)).trans X11) Tryz.underlying30 rfl (by kernel_rfl) ?_; exact hK _ _ rfl rfB
    · intro ts W hb hB hp; have h7 : ts 7 = _ := hp 7 (by kernel_rfl); have h5 : ts 5 = _ := hp 5 (by kernel_rfl); refine Guarded.on h5 ?_; clear h5; intro K hK; simp only [fillT, Nat.zero_add, Nat.reduceAdd, sA, sB, sC, h7] at hK ⊢; have HK := hid hK; clear hK hp; refine ⟨?_⟩; go_simp; refine (HNG.out W _ (N11.below hb)).mono ?_; rintro e W9 ⟨r9, rfl, hr9, hb9⟩; exact HK.out _ _ hr9 hb9
    · intro ts W hb hB hp; have h6 : ts 6 = _ := hp 6 (by kernel_rfl); have h8 : IsNum W (ts 8) (A.neg) := hp 8 (by kernel_rfl); have h5 : ts 5 = _ := hp 5 (by kernel_rfl); refine Guarded.on h5 ?_; clear h5; intro K hK; simp only [fillT, Nat.zero_add, Nat.reduceAdd, sA, sB, sC, h6] at hK ⊢; have HK := hid hK; clear hK hp; refine ⟨?_⟩; go_simp; refine (HSN2.out W _ _ (N12.below hb) h8).mono ?_; rintro e W9 ⟨rfl, hb9⟩; exact HK.out _ _ rfl hb9
    · intro ts W hb hB hp; have h5 : ts 5 = _ := hp 5 (by kernel_rfl); have h9 : ts 9 = _ := hp 9 (by kernel_rfl); have h1 : ts 1 = _ := hp 1 (by kernel_rfl); refine Guarded.on h1 ?_; clear h1; intro K hK; simp only [fillT, Nat.zero_add, Nat.reduceAdd, sA, sB, sC, h5, h9] at hK ⊢; have HK := hid hK; clear hK hp; refine ⟨?_⟩; go_simp; exact HK.out _ _ rfl rfB
    · intro ts W hb hB hp; have h1 : ts 1 = _ := hp 1 (by kernel_rfl); have h10 : ts 10 = _ := hp 10 (by kernel_rfl); intro K hK; simp only [fillT, Nat.zero_add, Nat.reduceAdd, sA, sB, sC, h1, h10] at hK ⊢; have HK := hid hK; clear hK hp; refine ⟨?_⟩; go_simp; exact HK.out _ _ rfl rfB
    · intro ts W hb hB hp; have h11 : ts 11 = _ := hp 11 (by kernel_rfl); intro K hK; simp only [fillT, Nat.zero_add, Nat.reduceAdd, sA, sB, sC, h11] at hK ⊢; have HK := hid hK; clear hK hp; refine ⟨?_⟩; go_simp; exact HK.out _ _ rfl rfB
    · intro ts W hb hB hp; have h12 : ts 12 = _ := hp 12 (by kernel_rfl); refine Guarded.on h12 ?_; clear h12; intro K hK; simp only [fillT, Nat.zero_add, Nat.reduceAdd, sA, sB, sC] at hK ⊢; refine ⟨?_⟩; refine wp_load_row _ _ rfl (g12) rfl _ _ (0, 0) _ ((hb.block _ (z12)).trans X12) Tryz.underlying30 rfl (by kernel_rfl) ?_; exact hK _ _ rfl rfB
    · intro ts W hb hB hp; have h13 : ts 13 = _ := hp 13 (by kernel_rfl); have h12 : ts 12 = _ := hp 12 (by kernel_rfl); refine Guarded.on h12 ?_; clear h12; intro K hK; simp only [fillT, Nat.zero_add, Nat.reduceAdd, sA, sB, sC, h13] at hK ⊢; have HK := hid hK; clear hK hp; refine ⟨?_⟩; go_simp; refine (HRE.out W (below_trans B1 hb) _ (N12.below hb)).mono ?_; rintro e W9 ⟨r9, rfl, hr9, hb9⟩; exact HK.out _ _ hr9 hb9
    · intro ts W hb hB hp; have h12 : ts 12 = _ := hp 12 (by kernel_rfl); refine Guarded.on h12 ?_; clear h12; intro K hK; simp only [fillT, Nat.zero_add, Nat.reduceAdd, sA, sB, sC] at hK ⊢; have HK := hid hK; clear hK hp; refine ⟨?_⟩; go_simp; refine (HI0.out W).mono ?_; rintro e W9 ⟨r9, rfl, hr9, hb9⟩; exact HK.out _ _ hr9 hb9
    · intro ts W hb hB hp; have h14 : IsNum W (ts 14) (y12.real) := hp 14 (by kernel_rfl); have h15 : IsNum W (ts 15) (.int 0) := hp 15 (by kernel_rfl); have h12 : ts 12 = _ := hp 12 (by kernel_rfl); refine Guarded.on h12 ?_; clear h12; intro K hK; simp only [fillT, Nat.zero_add, Nat.reduceAdd, sA, sB, sC] at hK ⊢; have HK := hid hK; clear hK hp; refine ⟨?_⟩; go_simp; refine (HCM.out W _ _ h14 h15).mono ?_; rintro e W9 ⟨rfl, hb9⟩; exact HK.out _ _ rfl hb9
    · intro ts W hb hB hp; have h16 : ts 16 = _ := hp 16 (by kernel_rfl); have h12 : ts 12 = _ := hp 12 (by kernel_rfl); refine Guarded.on h12 ?_; clear h12; intro K hK; simp only [fillT, Nat.zero_add, Nat.reduceAdd, sA, sB, sC, h16] at hK ⊢; have HK := hid hK; clear hK hp; refine ⟨?_⟩; have hge := HGE.out; go_simp; exact HK.out _ _ (by first | rfl | simp [hge]) rfB
    · intro ts W hb hB hp; have h12 : ts 12 = _ := hp 12 (by kernel_rfl); have h17 : ts 17 = _ := hp 17 (by kernel_rfl); intro K hK; simp only [fillT, Nat.zero_add, Nat.reduceAdd, sA, sB, sC, h12, h17] at hK ⊢; have HK := hid hK; clear hK hp; refine ⟨?_⟩; go_simp; exact HK.out _ _ rfl rfB
    · intro ts W hb hB hp; have h18 : ts 18 = _ := hp 18 (by kernel_rfl); intro K hK; simp only [fillT, Nat.zero_add, Nat.reduceAdd, sA, sB, sC, h18] at hK ⊢; have HK := hid hK; clear hK hp; refine ⟨?_⟩; go_simp; exact HK.out _ _ rfl rfB
    · intro ts W hb hB hp; have h19 : ts 19 = _ := hp 19 (by kernel_rfl); refine Guarded.on h19 ?_; clear h19; intro K hK; simp only [fillT, Nat.zero_add, Nat.reduceAdd, sA, sB, sC] at hK ⊢; have HK := hid hK; clear hK hp; refine ⟨?_⟩; go_simp; refine (awake_any W (HT.out.below (below_trans B1 hb))).mono ?_; rintro e W9 ⟨rfl, hb9⟩; exact HK.out _ _ rfl hb9
    · intro ts W hb hB hp; have h19 : ts 19 = _ := hp 19 (by kernel_rfl); have h20 : ts 20 = _ := hp 20 (by kernel_rfl); intro K hK; simp only [fillT, Nat.zero_add, Nat.reduceAdd, sA, sB, sC, h19, h20] at hK ⊢; have HK := hid hK; clear hK hp; refine ⟨?_⟩; go_simp; exact HK.out _ _ rfl rfB
    · intro ts W hb hB hp; have h21 : ts 21 = _ := hp 21 (by kernel_rfl); intro K hK; simp only [fillT, Nat.zero_add, Nat.reduceAdd, sA, sB, sC, h21] at hK ⊢; have HK := hid hK; clear hK hp; refine ⟨?_⟩; go_simp; exact HK.out _ _ rfl rfB
    intro ts W12 hbq hh hap
    have e22 := held_is (hh 22 (by simp)) rfl
    simp only [fillT, Nat.zero_add, Nat.reduceAdd, sA, sB, sC, e22]
    clear hh hap e22
    generalize ts 0 = v0_W12 at *
    generalize ts 1 = v1_W12 at *
    generalize ts 2 = v2_W12 at *
    generalize ts 3 = v3_W12 at *
    generalize ts 4 = v4_W12 at *
    generalize ts 5 = v5_W12 at *
    generalize ts 6 = v6_W12 at *
    generalize ts 7 = v7_W12 at *
    generalize ts 8 = v8_W12 at *
    generalize ts 9 = v9_W12 at *
    generalize ts 10 = v10_W12 at *
    generalize ts 11 = v11_W12 at *
    generalize ts 12 = v12_W12 at *
    generalize ts 13 = v13_W12 at *
    generalize ts 14 = v14_W12 at *
    generalize ts 15 = v15_W12 at *
    generalize ts 16 = v16_W12 at *
    generalize ts 17 = v17_W12 at *
    generalize ts 18 = v18_W12 at *
    generalize ts 19 = v19_W12 at *
    generalize ts 20 = v20_W12 at *
    generalize ts 21 = v21_W12 at *
    clear ts
    go_wp2
    go_ret
    exact ⟨rfl, below_trans B1 hbq⟩
end Go.Proofs.YtccldiokpgjocaaGreatDoor
