import Derived.IntWalk
import Derived.Test.YtccldiokpgjocaaGreatDoorR14
import Derived.Test.YtccldiokpgjocaaGreatDoorR17
import Derived.Test.YtccldiokpgjocaaGreatDoorR25
import Derived.Test.YtccldiokpgjocaaGreatDoorR26
import Derived.Test.YtccldiokpgjocaaGreatDoorR28
import Derived.Test.YtccldiokpgjocaaGreatDoorR31
import Derived.Test.YtccldiokpgjocaaGreatDoorR32
import Derived.Test.YtccldiokpgjocaaGreatDoorR33
import Derived.Test.YtccldiokpgjocaaGreatDoorR34
import Derived.Test.YtccldiokpgjocaaGreatDoorR35
import Derived.Test.YtccldiokpgjocaaGreatDoorR42
import Derived.Test.YtccldiokpgjocaaGreatDoorR45
import Derived.Test.YtccldiokpgjocaaGreatDoorR47
set_option linter.unusedSimpArgs false
set_option linter.unusedVariables false
namespace Go.Proofs.YtccldiokpgjocaaGreatDoor
open Go.RowKit
set_option maxRecDepth 100000
theorem sz_isroot {y : Cx} {q : Rat} {k : Nat} (h : IsRoot y.re q) (hi : y.im = 0) (hq : Sz ⟨q, 0⟩ k) : Sz y k := by
  have hl : Low ⟨q, 0⟩ q.num 0 q.den := ⟨q.den_pos, by have := q.reduced; unfold Nat.Coprime at this; rw [Nat.gcd_comm] at this; simpa using this, num_den q, by simp⟩
  obtain ⟨s1, -, s3⟩ := hq _ _ _ hl
  obtain ⟨p1, p2⟩ := root_sz h.2 q.den_pos (num_den q) s1 s3
  exact Sz.of y.re.den_pos (num_den y.re) (b := 0) (by rw [hi]; simp) p1 (by simp [wl_zero]) p2
theorem sz_turned {x : Cx} {k : Nat} (hi : x.im = 0) (h : Sz x k) : Sz ⟨0, x.re⟩ k := by
  obtain ⟨a, b, d, hl⟩ := Low.ex x
  obtain ⟨s1, -, s3⟩ := h _ _ _ hl
  exact Sz.low (low_turned hl hi) (by simp [wl_zero]) s1 s3
theorem div_real {p u : Rat} {y : Cx} (hy : y.im = 0) (hu : y.re = u) (h0 : u ≠ 0) : Cx.div ⟨p, 0⟩ y = ⟨p / u, 0⟩ := by
  have e : u * u ≠ 0 := fun c => h0 (sq_zero c)
  apply Cx.ext
  · simp only [Cx.div, Cx.mul, Cx.inv, Cx.nrm, hy, hu]
    have : u * u + 0 * 0 = u * u := by grind
    rw [this]
    have k1 : u / (u * u) * (u * u) = u := Rat.div_mul_cancel e
    have k2 : p / u * u = p := Rat.div_mul_cancel h0
    have k3 : (p * (u / (u * u)) - p / u) * (u * u) = 0 := by grind
    rcases Rat.mul_eq_zero.1 k3 with c | c
    · grind
    · exact absurd c e
  · simp only [Cx.div, Cx.mul, Cx.inv, Cx.nrm, hy, hu]
    grind
def RetSq (V : World → Value → Cx → Prop) (w : World) (x : Cx) (e : Ending) (w' : World) : Prop :=
  ∃ v ok y, e = .returned (.tuple #[v, .bool ok]) ∧ V w' v y ∧ Below w.heap.size w w' ∧ ((ok = true ∧ Pri y x) ∨ (ok = false ∧ y = .zero ∧ ¬ ∃ y : Cx, y.mul y = x))
theorem RetSq.box {w W : World} {v : Value} {y x : Cx} {ok : Bool} {g : Nat} (hb : Below w.heap.size w W) (hg : w.heap.size ≤ g) (hB : NumBox W g) (h : IsNum W v y)
    (hq : (ok = true ∧ Pri y x) ∨ (ok = false ∧ y = .zero ∧ ¬ ∃ y : Cx, y.mul y = x)) (v0 v1 v2 v3 v4 : Value) :
    RetSq IsNum w x (.returned (.tuple #[v, .bool ok])) (((((W.setCell ⟨g, 0, none⟩ v0).setCell ⟨g, 1, none⟩ v1).setCell ⟨g, 2, none⟩ v2).setCell ⟨g, 3, none⟩ v3).setCell ⟨g, 4, none⟩ v4) :=
  ⟨v, ok, y, rfl, h.box5 hB _ _ _ _ _, below_box5 hb hg _ _ _ _ _, hq⟩
theorem field_size (w : World) (A : Option Addr) (n c : Nat) (b : Bool) : (Instr.field 28 (.agg #[.slice A n c, .bool b]) 0).run Tryz.prog w = .ok (.slice A n c) w := by kernel_rfl
set_option maxHeartbeats 4000000 in
theorem sqrtN_any (v : Value) (x : Cx) (w : World) (h : IsNum w v x) (hT : Tab w) (m : Nat) (hx : Sz x m) (hm : m < 16777216) :
    Calls Tryz.prog 37 #[v] w (RetSq IsNum w x) := by
  have HX := hid h
  obtain ⟨A1, n1, c1, p1, A1b, n1b, c1b, p1b, A1c, n1c, c1c, a1, b1, d1, rfl, hl1, hr1, hi1, hs1, hn1, hm1, hd1, hp1, hq1⟩ := h.parts
  obtain ⟨s1, s2, s3⟩ := hx _ _ _ hl1
  have hd0 := hl1.pos
  obtain ⟨s, hs⟩ := IsRt.ex (a1 * a1 + b1 * b1).natAbs
  obtain ⟨hY, hN⟩ := root_norm hl1 hs
  have w1 := wl_iadd (a1 * a1) (b1 * b1)
  have w2 := wl_imul a1 a1
  have w3 := wl_imul b1 b1
  have w4 := wl_mono hs.le_self
  have w5 := wl_iadd (s : Int) a1
  have w7 := wl_add d1 d1
  have w9 : wl (s : Int).natAbs = wl s := rfl
  rw [show d1 + d1 = d1 * 2 by omega] at w7
  have hd2 : 0 < d1 * 2 := by omega
  have q1 : (((s : Rat) / (d1 : Rat) + x.re) / 2) * ((d1 * 2 : Nat) : Rat) = (((s : Int) + a1 : Int) : Rat) := by
    have e2 : (s : Rat) / (d1 : Rat) * (d1 : Rat) = (s : Rat) := Rat.div_mul_cancel (natCast_ne hd0)
    rw [Rat.natCast_mul, Rat.intCast_add, Rat.intCast_natCast, ← e2, ← hl1.2.2.1]
    grind
  have q2 : (x.im / 2) * ((d1 * 2 : Nat) : Rat) = (b1 : Rat) := by
    rw [Rat.natCast_mul, ← hl1.2.2.2]
    grind
  have zA : Sz ⟨((s : Rat) / (d1 : Rat) + x.re) / 2, 0⟩ (2 * m + 4) := Sz.of hd2 q1 (b := 0) (by simp) (by omega) (by simp [wl_zero]) (by omega)
  have zB : Sz ⟨x.im / 2, 0⟩ (2 * m + 4) := Sz.of hd2 q2 (b := 0) (by simp) (by omega) (by simp [wl_zero]) (by omega)
  have HM1 := hid (fun W (hb : Below w.heap.size w W) => mulI_any _ _ a1 a1 W (hr1.below hb) (hr1.below hb) (by omega))
  have HM2 := hid (fun W (hb : Below w.heap.size w W) => mulI_any _ _ b1 b1 W (hi1.below hb) (hi1.below hb) (by omega))
  have HAD := hid (fun W v u (h1 : IsInt W v (a1 * a1)) (h2 : IsInt W u (b1 * b1)) => addI_any v u _ _ W h1 h2 (by omega) (by omega))
  have HSQ := hid (fun W (hb : Below w.heap.size w W) u (hu : IsNat W u (a1 * a1 + b1 * b1).natAbs) => squareRoot_any u _ s W hu hs (by omega))
  have HDN := hid (fun W (hb : Below w.heap.size w W) => denominator_any _ x W (HX.out.below hb) a1 b1 d1 hl1)
  have HUP := hid (fun W u (hu : IsNat W u d1) => (up_any u d1 1 W hu (by omega) (by omega)).mono (R' := RetNat W (d1 * 2)) fun e w' h => h)
  have HA1 := hid (fun W v (hb : Below w.heap.size w W) (h1 : IsInt W v (s : Int)) => addI_any v _ (s : Int) a1 W h1 (hr1.below hb) (by omega) (by omega))
  have HLA := hid (fun W v u (hb : Below w.heap.size w W) (h1 : IsInt W v ((s : Int) + a1)) (h2 : IsNat W u (d1 * 2)) => lowest_any v (.agg #[.slice none 0 0, .bool false]) u _ 0 _ _ ⟨((s : Rat) / (d1 : Rat) + x.re) / 2, 0⟩ W h1 (IsInt.zero _ _ _) h2 (Den.self hd2) q1 (by simp) (by omega) (by simp [wl_zero]) (by omega) (hT.below hb))
  have HLB := hid (fun W (hb : Below w.heap.size w W) u (h2 : IsNat W u (d1 * 2)) => lowest_any _ (.agg #[.slice none 0 0, .bool false]) u b1 0 _ _ ⟨x.im / 2, 0⟩ W (hi1.below hb) (IsInt.zero _ _ _) h2 (Den.self hd2) q2 (by simp) (by omega) (by simp [wl_zero]) (by omega) (hT.below hb))
  have HRA := hid (fun (hM : IsRoot ((s : Rat) / (d1 : Rat)) (x.re * x.re + x.im * x.im)) W v (hb : Below w.heap.size w W) (h1 : IsNum W v ⟨((s : Rat) / (d1 : Rat) + x.re) / 2, 0⟩) => realRoot_any v _ W h1 (hT.below hb) _ zA (by omega) (norm_ge hM).1 rfl)
  have HNG := hid (fun W (hb : Below w.heap.size w W) => negN_any _ x W (HX.out.below hb))
  have HRN := hid (fun (k1 : 0 ≤ x.neg.re) (k2 : x.neg.im = 0) W v (hb : Below w.heap.size w W) (h1 : IsNum W v x.neg) => realRoot_any v _ W h1 (hT.below hb) m hx.neg (by omega) k1 k2)
  have HZA := hid zA
  have HZB := hid zB
  have HY := hid hY
  have HN := hid hN
  have HT := hid hT
  have hs0 : IsInt w (.agg #[.slice none 0 0, .bool false]) 0 := IsInt.zero _ _ _
  clear hs hs0 h hx hT w1 w2 w3 w4 w5 w7 w9 hd2 hd0 q1 q2 zA zB hY hN s1 s2 s3 hl1 hr1 hi1 hs1 hn1 hm1 hd1 hp1 hq1
  go_enter Tryz.func37, Tryz.ntmps37
  go_upto_region 1 with fail
  obtain ⟨W1, hW1⟩ : ∃ W1 : World, W1 = (w.alloc (.cells #[.slice A1 n1 c1, .bool p1, .slice A1b n1b c1b, .bool p1b, .slice A1c n1c c1c] 30)).alloc (.cells #[.slice none 0 0, .bool false, .slice none 0 0, .bool false, .slice none 0 0] 30) := ⟨_, rfl⟩
  rw [← hW1]
  have B1 : Below w.heap.size w W1 := by rw [hW1]; exact bel
  have X := boxes2 w (.cells #[.slice A1 n1 c1, .bool p1, .slice A1b n1b c1b, .bool p1b, .slice A1c n1c c1c] 30) (.cells #[.slice none 0 0, .bool false, .slice none 0 0, .bool false, .slice none 0 0] 30)
  rw [← hW1] at X
  obtain ⟨X0, z0, X1, z1⟩ := X
  clear hW1
  refine region_lin [.val (kIs (.pointer (some ⟨w.heap.size, 0, none⟩))), .val (kIs (.agg #[.slice A1 n1 c1, .bool p1])), .val (kIs (.pointer (some ⟨w.heap.size, 0, none⟩))), .val (kIs (.agg #[.slice A1 n1 c1, .bool p1])), .val (kInt (a1 * a1)), .val (kIs (.pointer (some ⟨w.heap.size, 2, none⟩))), .val (kIs (.agg #[.slice A1b n1b c1b, .bool p1b])), .val (kIs (.pointer (some ⟨w.heap.size, 2, none⟩))), .val (kIs (.agg #[.slice A1b n1b c1b, .bool p1b])), .val (kInt (b1 * b1)), .val (kInt (a1 * a1 + b1 * b1)), .val (kNat (a1 * a1 + b1 * b1).natAbs), .val (kRoot s (decide (s * s = (a1 * a1 + b1 * b1).natAbs))), .val (kRoot s (decide (s * s = (a1 * a1 + b1 * b1).natAbs))), .val (kNat s), .val (kIs (.bool (decide (s * s = (a1 * a1 + b1 * b1).natAbs)))), .val (kNat s), .val (kIs (.bool (decide (s * s = (a1 * a1 + b1 * b1).natAbs))))]
    (by kernel_rfl) (by kernel_rfl) (by kernel_rfl) (by kernel_rfl) (by kernel_rfl) ⟨Stab.b (stab_is _), Stab.b (stab_is _), Stab.b (stab_is _), Stab.b (stab_is _), Stab.b (stab_int _), Stab.b (stab_is _), Stab.b (stab_is _), Stab.b (stab_is _), Stab.b (stab_is _), Stab.b (stab_int _), Stab.b (stab_int _), stabB_nat _, stabB_root _ _, stabB_root _ _, stabB_nat _, Stab.b (stab_is _), stabB_nat _, Stab.b (stab_is _), trivial⟩ (by simp) ⟨?_, ?_, ?_, ?_, ?_, ?_, ?_, ?_, ?_, ?_, ?_, ?_, ?_, ?_, ?_, ?_, ?_, ?_, trivial⟩ ?_
  · exact obp
  · intro ts W hb hB hp; have h0 : ts 0 = _ := hp 0 (by kernel_rfl); intro K hK; simp only [fillT, Nat.zero_add, Nat.reduceAdd, sA, sB, sC, h0] at hK ⊢; have HK := hid hK; clear hK hp; obtain ⟨f0, f1, f2, f3, f4, -, -, -, -, -⟩ := bx5 ((hb.block _ z0).trans X0); refine ⟨?_⟩; go_simp; exact HK.out _ _ rfl rfB
  · exact obp
  · intro ts W hb hB hp; have h2 : ts 2 = _ := hp 2 (by kernel_rfl); intro K hK; simp only [fillT, Nat.zero_add, Nat.reduceAdd, sA, sB, sC, h2] at hK ⊢; have HK := hid hK; clear hK hp; obtain ⟨f0, f1, f2, f3, f4, -, -, -, -, -⟩ := bx5 ((hb.block _ z0).trans X0); refine ⟨?_⟩; go_simp; exact HK.out _ _ rfl rfB
  · intro ts W hb hB hp; have h1 : ts 1 = _ := hp 1 (by kernel_rfl); have h3 : ts 3 = _ := hp 3 (by kernel_rfl); intro K hK; simp only [fillT, Nat.zero_add, Nat.reduceAdd, sA, sB, sC, h1, h3] at hK ⊢; have HK := hid hK; clear hK hp; refine ⟨?_⟩; go_simp; refine (HM1.out W (below_trans B1 hb)).mono ?_; rintro e W9 ⟨r9, rfl, hr9, hb9⟩; exact HK.out _ _ hr9 hb9
  · exact obp
  · intro ts W hb hB hp; have h5 : ts 5 = _ := hp 5 (by kernel_rfl); intro K hK; simp only [fillT, Nat.zero_add, Nat.reduceAdd, sA, sB, sC, h5] at hK ⊢; have HK := hid hK; clear hK hp; obtain ⟨f0, f1, f2, f3, f4, -, -, -, -, -⟩ := bx5 ((hb.block _ z0).trans X0); refine ⟨?_⟩; go_simp; exact HK.out _ _ rfl rfB
  · exact obp
  · intro ts W hb hB hp; have h7 : ts 7 = _ := hp 7 (by kernel_rfl); intro K hK; simp only [fillT, Nat.zero_add, Nat.reduceAdd, sA, sB, sC, h7] at hK ⊢; have HK := hid hK; clear hK hp; obtain ⟨f0, f1, f2, f3, f4, -, -, -, -, -⟩ := bx5 ((hb.block _ z0).trans X0); refine ⟨?_⟩; go_simp; exact HK.out _ _ rfl rfB
  · intro ts W hb hB hp; have h6 : ts 6 = _ := hp 6 (by kernel_rfl); have h8 : ts 8 = _ := hp 8 (by kernel_rfl); intro K hK; simp only [fillT, Nat.zero_add, Nat.reduceAdd, sA, sB, sC, h6, h8] at hK ⊢; have HK := hid hK; clear hK hp; refine ⟨?_⟩; go_simp; refine (HM2.out W (below_trans B1 hb)).mono ?_; rintro e W9 ⟨r9, rfl, hr9, hb9⟩; exact HK.out _ _ hr9 hb9
  · intro ts W hb hB hp; have h4 := hp 4 (by kernel_rfl); have h9 := hp 9 (by kernel_rfl); intro K hK; simp only [fillT, Nat.zero_add, Nat.reduceAdd, sA, sB, sC] at hK ⊢; have HK := hid hK; clear hK hp; refine ⟨?_⟩; go_simp; refine (HAD.out W _ _ h4 h9).mono ?_; rintro e W9 ⟨r9, rfl, hr9, hb9⟩; exact HK.out _ _ hr9 hb9
  · intro ts W hb hB hp; have h10 := hp 10 (by kernel_rfl); intro K hK; simp only [fillT, Nat.zero_add, Nat.reduceAdd, sA, sB, sC] at hK ⊢; have HK := hid hK; clear hK hp; obtain ⟨u0, e0, k0⟩ := h10; obtain ⟨A0, n0, c0, rfl, -⟩ := k0.ex; simp only [e0] at HK ⊢; have hfd := field_size; refine ⟨?_⟩; go_simp; exact HK.out _ _ k0 rfB
  · intro ts W hb hB hp; have h11 := hp 11 (by kernel_rfl); intro K hK; simp only [fillT, Nat.zero_add, Nat.reduceAdd, sA, sB, sC] at hK ⊢; have HK := hid hK; clear hK hp; refine ⟨?_⟩; go_simp; refine (HSQ.out W (below_trans B1 hb) _ h11).mono ?_; rintro e W9 ⟨r9, rfl, hr9, hb9⟩; exact HK.out _ _ ⟨_, rfl, hr9⟩ hb9
  · intro ts W hb hB hp; have h12 := hp 12 (by kernel_rfl); intro K hK; simp only [fillT, Nat.zero_add, Nat.reduceAdd, sA, sB, sC] at hK ⊢; have HK := hid hK; clear hK hp; refine ⟨?_⟩; go_simp; exact HK.out _ _ h12 rfB
  · intro ts W hb hB hp; have h13 := hp 13 (by kernel_rfl); intro K hK; simp only [fillT, Nat.zero_add, Nat.reduceAdd, sA, sB, sC] at hK ⊢; have HK := hid hK; clear hK hp; obtain ⟨u0, e0, k0⟩ := h13; simp only [e0] at HK ⊢; refine ⟨?_⟩; go_simp; exact HK.out _ _ k0 rfB
  · intro ts W hb hB hp; have h13 := hp 13 (by kernel_rfl); intro K hK; simp only [fillT, Nat.zero_add, Nat.reduceAdd, sA, sB, sC] at hK ⊢; have HK := hid hK; clear hK hp; obtain ⟨u0, e0, k0⟩ := h13; simp only [e0] at HK ⊢; refine ⟨?_⟩; go_simp; exact HK.out _ _ rfl rfB
  · intro ts W hb hB hp; have h14 := hp 14 (by kernel_rfl); intro K hK; simp only [fillT, Nat.zero_add, Nat.reduceAdd, sA, sB, sC] at hK ⊢; have HK := hid hK; clear hK hp; refine ⟨?_⟩; go_simp; exact HK.out _ _ h14 rfB
  · intro ts W hb hB hp; have h15 : ts 15 = _ := hp 15 (by kernel_rfl); intro K hK; simp only [fillT, Nat.zero_add, Nat.reduceAdd, sA, sB, sC, h15] at hK ⊢; have HK := hid hK; clear hK hp; refine ⟨?_⟩; go_simp; exact HK.out _ _ rfl rfB
  intro ts W2 hb2 hh hap
  have H16 : IsNat W2 (ts 16) s := hh 16 (by simp)
  have e17 := held_is (hh 17 (by simp)) rfl
  obtain ⟨A7, n7, c7, e7, -⟩ := H16.ex
  rw [e7] at H16
  simp only [fillT, Nat.zero_add, Nat.reduceAdd, sA, sB, sC, e7, e17]
  clear hh hap e7 e17
  generalize ts 0 = u0_W2 at *
  generalize ts 1 = u1_W2 at *
  generalize ts 2 = u2_W2 at *
  generalize ts 3 = u3_W2 at *
  generalize ts 4 = u4_W2 at *
  generalize ts 5 = u5_W2 at *
  generalize ts 6 = u6_W2 at *
  generalize ts 7 = u7_W2 at *
  generalize ts 8 = u8_W2 at *
  generalize ts 9 = u9_W2 at *
  generalize ts 10 = u10_W2 at *
  generalize ts 11 = u11_W2 at *
  generalize ts 12 = u12_W2 at *
  generalize ts 13 = u13_W2 at *
  generalize ts 14 = u14_W2 at *
  generalize ts 15 = u15_W2 at *
  clear ts
  replace X0 := (hb2.block _ z0).trans X0
  replace z0 := Nat.lt_of_lt_of_le z0 hb2.size
  replace X1 := (hb2.block _ z1).trans X1
  replace z1 := Nat.lt_of_lt_of_le z1 hb2.size
  replace B1 := below_trans B1 hb2
  clear hb2
  by_cases k1 : s * s = (a1 * a1 + b1 * b1).natAbs
  · have HM := hid (HY.out k1)
    rw [decide_eq_true k1]
    clear k1 HY HN
    obtain ⟨f0, f1, f2, f3, f4, fy0, fy1, fy2, fy3, fy4⟩ := bx5 X0
    go_wp2_with fail
    refine (HDN.out _ B1).mono ?_
    rintro e W3 ⟨u3, rfl, hu3, hb3⟩
    clear f0 f1 f2 f3 f4 fy0 fy1 fy2 fy3 fy4
    replace X0 := (hb3.block _ z0).trans X0
    replace z0 := Nat.lt_of_lt_of_le z0 hb3.size
    replace X1 := (hb3.block _ z1).trans X1
    replace z1 := Nat.lt_of_lt_of_le z1 hb3.size
    replace H16 := H16.below hb3
    replace B1 := below_trans B1 hb3
    clear hb3
    go_wp2_with fail
    refine (HUP.out _ _ hu3).mono ?_
    rintro e W4 ⟨u6, rfl, N6, hb4⟩
    replace X0 := (hb4.block _ z0).trans X0
    replace z0 := Nat.lt_of_lt_of_le z0 hb4.size
    replace X1 := (hb4.block _ z1).trans X1
    replace z1 := Nat.lt_of_lt_of_le z1 hb4.size
    replace H16 := H16.below hb4
    replace B1 := below_trans B1 hb4
    clear hb4
    clear hu3
    have hp6 : IsInt W4 (.agg #[.slice A7 n7 c7, .bool false]) (s : Int) := ⟨.slice A7 n7 c7, by simp, by simpa using H16⟩
    obtain ⟨f0, f1, f2, f3, f4, fy0, fy1, fy2, fy3, fy4⟩ := bx5 X0
    go_wp2_with fail
    refine (HA1.out _ _ B1 hp6).mono ?_
    rintro e W5 ⟨u5, rfl, hu5, hb5⟩
    clear f0 f1 f2 f3 f4 fy0 fy1 fy2 fy3 fy4
    replace X0 := (hb5.block _ z0).trans X0
    replace z0 := Nat.lt_of_lt_of_le z0 hb5.size
    replace X1 := (hb5.block _ z1).trans X1
    replace z1 := Nat.lt_of_lt_of_le z1 hb5.size
    replace N6 := N6.below hb5
    replace B1 := below_trans B1 hb5
    clear hb5
    clear H16 hp6
    go_wp2_with fail
    refine (HLA.out _ _ _ B1 hu5 N6).mono ?_
    rintro e W6 ⟨u8, rfl, hu8, hb6⟩
    replace X0 := (hb6.block _ z0).trans X0
    replace z0 := Nat.lt_of_lt_of_le z0 hb6.size
    replace X1 := (hb6.block _ z1).trans X1
    replace z1 := Nat.lt_of_lt_of_le z1 hb6.size
    replace N6 := N6.below hb6
    replace B1 := below_trans B1 hb6
    clear hb6
    clear hu5
    go_wp2_with fail
    refine (HRA.out HM.out _ _ B1 hu8).mono ?_
    rintro e W7 ⟨v9, ok9, y7, rfl, hy7, hb7, hq7⟩
    replace X0 := (hb7.block _ z0).trans X0
    replace z0 := Nat.lt_of_lt_of_le z0 hb7.size
    replace X1 := (hb7.block _ z1).trans X1
    replace z1 := Nat.lt_of_lt_of_le z1 hb7.size
    replace N6 := N6.below hb7
    replace B1 := below_trans B1 hb7
    clear hb7
    clear hu8
    obtain ⟨A9, n9, c9, p9, A9b, n9b, c9b, p9b, A9c, n9c, c9c, qa, qb, qd, rfl, -⟩ := hy7.parts
    have N9 := hy7
    have HQ7 := hid hq7
    clear hy7 hq7
    go_upto_region 6 with fail
    obtain ⟨W8, hW8⟩ : ∃ W8 : World, W8 = W7.alloc (.cells #[.slice A9 n9 c9, .bool p9, .slice A9b n9b c9b, .bool p9b, .slice A9c n9c c9c] 30) := ⟨_, rfl⟩
    rw [← hW8]
    have D8 : Below W7.heap.size W7 W8 := by rw [hW8]; exact bel
    have X9 : W8.heap[W7.heap.size]? = some (.cells #[.slice A9 n9 c9, .bool p9, .slice A9b n9b c9b, .bool p9b, .slice A9c n9c c9c] 30 (0, 0)) := by rw [hW8]; exact heap_alloc_new _ _
    have z9 : W7.heap.size < W8.heap.size := by rw [hW8]; simp
    have l9 : w.heap.size + 1 < W7.heap.size := z1
    clear hW8
    replace X0 := (D8.block _ z0).trans X0
    replace z0 := Nat.lt_of_lt_of_le z0 D8.size
    replace X1 := (D8.block _ z1).trans X1
    replace z1 := Nat.lt_of_lt_of_le z1 D8.size
    replace N6 := N6.below D8
    replace N9 := N9.below D8
    replace B1 := below_trans B1 D8
    clear D8
    generalize W7.heap.size = g9 at *
    rcases HQ7.out with ⟨rfl, hr7, hi7⟩ | ⟨rfl, hz7, hn7⟩
    · have HRT := hid hr7
      have HI7 := hid hi7
      have HS7 := hid (sz_isroot hr7 hi7 HZA.out)
      clear hr7 hi7 HQ7
      obtain ⟨f0, f1, f2, f3, f4, fy0, fy1, fy2, fy3, fy4⟩ := bx5 X9
      go_wp2_with fail
      refine (clear_any _ y7 _ N9).mono ?_
      rintro e W10 ⟨rfl, hb10⟩
      clear f0 f1 f2 f3 f4 fy0 fy1 fy2 fy3 fy4
      replace X0 := (hb10.block _ z0).trans X0
      replace z0 := Nat.lt_of_lt_of_le z0 hb10.size
      replace X1 := (hb10.block _ z1).trans X1
      replace z1 := Nat.lt_of_lt_of_le z1 hb10.size
      replace X9 := (hb10.block _ z9).trans X9
      replace z9 := Nat.lt_of_lt_of_le z9 hb10.size
      replace N6 := N6.below hb10
      replace N9 := N9.below hb10
      replace B1 := below_trans B1 hb10
      clear hb10
      by_cases k7 : y7 = .zero
      · rw [decide_eq_true k7]
        have hu0 : IsRoot 0 (((s : Rat) / (d1 : Rat) + x.re) / 2) := by
          have := HRT.out
          rw [k7] at this
          exact this
        have hre : x.re = -((s : Rat) / (d1 : Rat)) := by have := hu0.2; grind
        have HK1 := hid (show 0 ≤ x.neg.re from by have := HM.out.1; simp only [Cx.neg]; grind)
        have HK2 := hid (show x.neg.im = 0 from by
          have h1 := HM.out.2
          rw [hre] at h1
          have h2 : x.im * x.im = 0 := by grind
          simp only [Cx.neg]
          rw [sq_zero h2]
          rfl)
        have HU0 := hid hu0
        clear hu0 hre k7
        obtain ⟨f0, f1, f2, f3, f4, fy0, fy1, fy2, fy3, fy4⟩ := bx5 X0
        go_wp2_with fail
        refine (HNG.out _ B1).mono ?_
        rintro e W11 ⟨u11, rfl, hu11, hb11⟩
        clear f0 f1 f2 f3 f4 fy0 fy1 fy2 fy3 fy4
        replace X0 := (hb11.block _ z0).trans X0
        replace z0 := Nat.lt_of_lt_of_le z0 hb11.size
        replace X1 := (hb11.block _ z1).trans X1
        replace z1 := Nat.lt_of_lt_of_le z1 hb11.size
        replace B1 := below_trans B1 hb11
        clear hb11
        go_wp2_with fail
        refine (HRN.out HK1.out HK2.out _ _ B1 hu11).mono ?_
        rintro e W12 ⟨v12, ok12, y12, rfl, hy12, hb12, hq12⟩
        replace X0 := (hb12.block _ z0).trans X0
        replace z0 := Nat.lt_of_lt_of_le z0 hb12.size
        replace X1 := (hb12.block _ z1).trans X1
        replace z1 := Nat.lt_of_lt_of_le z1 hb12.size
        replace B1 := below_trans B1 hb12
        clear hb12
        clear hu11
        obtain ⟨A8, n8, c8, p8, A8b, n8b, c8b, p8b, A8c, n8c, c8c, ra, rb, rd, rfl, -⟩ := hy12.parts
        have N8 := hy12
        have him : y12.im = 0 := by
          rcases hq12 with ⟨-, -, h⟩ | ⟨-, h, -⟩
          · exact h
          · rw [h]; rfl
        have HP := hid (show (ok12 = true ∧ Pri ⟨0, y12.re⟩ x) ∨ (ok12 = false ∧ (⟨0, y12.re⟩ : Cx) = .zero ∧ ¬ ∃ y : Cx, y.mul y = x) from by
          rcases hq12 with ⟨h1, h2, -⟩ | ⟨h1, h2, h3⟩
          · exact .inl ⟨h1, (pri_zero HM.out HU0.out h2).1⟩
          · exact .inr ⟨h1, by rw [h2]; rfl, no_zero HM.out HU0.out h3⟩)
        have HIM := hid him
        clear hy12 hq12 him
        go_upto_region 10 with fail
        obtain ⟨W13, hW13⟩ : ∃ W13 : World, W13 = W12.alloc (.cells #[.slice A8 n8 c8, .bool p8, .slice A8b n8b c8b, .bool p8b, .slice A8c n8c c8c] 30) := ⟨_, rfl⟩
        rw [← hW13]
        have D13 : Below W12.heap.size W12 W13 := by rw [hW13]; exact bel
        have X8 : W13.heap[W12.heap.size]? = some (.cells #[.slice A8 n8 c8, .bool p8, .slice A8b n8b c8b, .bool p8b, .slice A8c n8c c8c] 30 (0, 0)) := by rw [hW13]; exact heap_alloc_new _ _
        have z8 : W12.heap.size < W13.heap.size := by rw [hW13]; simp
        clear hW13
        replace X0 := (D13.block _ z0).trans X0
        replace z0 := Nat.lt_of_lt_of_le z0 D13.size
        replace X1 := (D13.block _ z1).trans X1
        replace z1 := Nat.lt_of_lt_of_le z1 D13.size
        replace N8 := N8.below D13
        replace B1 := below_trans B1 D13
        clear D13
        generalize W12.heap.size = g8 at *
        obtain ⟨f0, f1, f2, f3, f4, fy0, fy1, fy2, fy3, fy4⟩ := bx5 X8
        go_wp2_with fail
        refine (turned_any _ y12 _ N8 HIM.out).mono ?_
        rintro e W14 ⟨u14, rfl, hu14, hb14⟩
        clear f0 f1 f2 f3 f4 fy0 fy1 fy2 fy3 fy4
        replace X0 := (hb14.block _ z0).trans X0
        replace z0 := Nat.lt_of_lt_of_le z0 hb14.size
        replace X1 := (hb14.block _ z1).trans X1
        replace z1 := Nat.lt_of_lt_of_le z1 hb14.size
        replace B1 := below_trans B1 hb14
        clear hb14
        obtain ⟨A5, n5, c5, p5, A5b, n5b, c5b, p5b, A5c, n5c, c5c, sa, sb, sd, rfl, -⟩ := hu14.parts
        have HU14 := hid hu14
        clear hu14
        obtain ⟨t0, t1, t2, t3, t4, ty0, ty1, ty2, ty3, ty4⟩ := bx5 X1
        go_wp2
        have NB : NumBox W14 (w.heap.size + 1) := .nil t0 t1 t2 t3 t4
        refine bodyPost_ret (v := .tuple #[.agg #[.slice A5 n5 c5, .bool p5, .slice A5b n5b c5b, .bool p5b, .slice A5c n5c c5c], .bool ok12]) (by simp [results, Tryz.results37]; exact run_load5e NB _ _ _ _ _ _) rfl ?_
        exact RetSq.box B1 (by omega) NB HU14.out HP.out _ _ _ _ _
      · rw [decide_eq_false k7]
        have hu0 : y7.re ≠ 0 := fun c => k7 (Cx.ext c HI7.out)
        have HU0 := hid hu0
        have HDR := hid (div_real (p := x.im / 2) HI7.out rfl hu0)
        have HPP := hid (pri_pos HM.out HRT.out hu0)
        have HSV := hid (HZB.out.div HS7.out)
        have HSV2 := hid (sz_turned (x := Cx.div ⟨x.im / 2, 0⟩ y7) (by rw [HDR.out]) HSV.out)
        have HK7 := hid k7
        have HDV := hid (fun W (hb : Below w.heap.size w W) v u (hv : IsNum W v ⟨x.im / 2, 0⟩) (hu : IsNum W u y7) => divN_r v u _ _ W hv hu _ _ HZB.out HS7.out (by omega) (HT.out.below hb) HK7.out HI7.out)
        have HTN := hid (fun W v (hv : IsNum W v (Cx.div ⟨x.im / 2, 0⟩ y7)) => turned_any v _ W hv (by rw [HDR.out]))
        have HAN := hid (fun W (hb : Below w.heap.size w W) v u (hv : IsNum W v y7) (hu : IsNum W u ⟨0, (Cx.div ⟨x.im / 2, 0⟩ y7).re⟩) => (addN_any v u _ _ W hv hu _ _ HS7.out HSV2.out (by omega) (HT.out.below hb)).mono (R' := RetNum W ⟨y7.re, x.im / 2 / y7.re⟩) fun e w' hh => by
          have e1 : y7.add ⟨0, (Cx.div ⟨x.im / 2, 0⟩ y7).re⟩ = ⟨y7.re, x.im / 2 / y7.re⟩ := by
            rw [HDR.out]
            apply Cx.ext
            · simp only [Cx.add]; grind
            · simp only [Cx.add, HI7.out]; grind
          rw [← e1]
          exact hh)
        clear hu0 k7 HDR HU0 HSV HSV2
        go_upto_region 11 with fail
        refine region_lin [.val (kIs (.pointer (some ⟨w.heap.size, 2, none⟩))), .val (kIs (.agg #[.slice A1b n1b c1b, .bool p1b])), .val (kIs (.agg #[.slice none 0 0, .bool false])), .val (kNat (d1 * 2)), .val (kNum ⟨x.im / 2, 0⟩), .val (kIs (.agg #[.slice A9 n9 c9, .bool p9, .slice A9b n9b c9b, .bool p9b, .slice A9c n9c c9c])), .val (kNumE (Cx.div ⟨x.im / 2, 0⟩ y7) 0), .val (kNumE (Cx.div ⟨x.im / 2, 0⟩ y7) 0), .val (kNum (Cx.div ⟨x.im / 2, 0⟩ y7)), .val (kIs (.int .i64 0)), .box 30 zNum, .put 10 8, .val (kIs (.int .i64 0))]
          (by kernel_rfl) (by kernel_rfl) (by kernel_rfl) (by kernel_rfl) (by kernel_rfl) ⟨stab_is _, stab_is _, stab_is _, stab_nat _, stab_num _, stab_is _, stab_nume _ _, stab_nume _ _, stab_num _, stab_is _, stab_is _, trivial⟩ (by simp) ⟨?_, ?_, ?_, ?_, ?_, ?_, ?_, ?_, ?_, ?_, alloc_num, store_num _, ?_, trivial⟩ ?_
        · exact obp
        · intro ts W hb hB hp; have h0 : ts 0 = _ := hp 0 (by kernel_rfl); intro K hK; simp only [fillT, Nat.zero_add, Nat.reduceAdd, sA, sB, sC, h0] at hK ⊢; have HK := hid hK; clear hK hp; obtain ⟨f0, f1, f2, f3, f4, -, -, -, -, -⟩ := bx5 ((hb.block _ z0).trans X0); refine ⟨?_⟩; go_simp; exact HK.out _ _ rfl rfB
        · exact obp
        · intro ts W hb hB hp; intro K hK; simp only [fillT, Nat.zero_add, Nat.reduceAdd, sA, sB, sC] at hK ⊢; have HK := hid hK; clear hK hp; refine ⟨?_⟩; go_simp; exact HK.out _ _ (N6.below hb) rfB
        · intro ts W hb hB hp; have h1 : ts 1 = _ := hp 1 (by kernel_rfl); have h2 : ts 2 = _ := hp 2 (by kernel_rfl); have h3 := hp 3 (by kernel_rfl); intro K hK; simp only [fillT, Nat.zero_add, Nat.reduceAdd, sA, sB, sC, h1, h2] at hK ⊢; have HK := hid hK; clear hK hp; refine ⟨?_⟩; go_simp; refine (HLB.out W (below_trans B1 hb) _ h3).mono ?_; rintro e W9 ⟨r9, rfl, hr9, hb9⟩; exact HK.out _ _ hr9 hb9
        · intro ts W hb hB hp; intro K hK; simp only [fillT, Nat.zero_add, Nat.reduceAdd, sA, sB, sC] at hK ⊢; have HK := hid hK; clear hK hp; obtain ⟨f0, f1, f2, f3, f4, -, -, -, -, -⟩ := bx5 ((hb.block _ z9).trans X9); refine ⟨?_⟩; go_simp; exact HK.out _ _ rfl rfB
        · intro ts W hb hB hp; have h4 := hp 4 (by kernel_rfl); have h5 : ts 5 = _ := hp 5 (by kernel_rfl); intro K hK; simp only [fillT, Nat.zero_add, Nat.reduceAdd, sA, sB, sC, h5] at hK ⊢; have HK := hid hK; clear hK hp; refine ⟨?_⟩; go_simp; refine (HDV.out W (below_trans B1 hb) _ _ h4 (N9.below hb)).mono ?_; rintro e W9 ⟨r9, rfl, hr9, hb9⟩; exact HK.out _ _ ⟨_, rfl, hr9⟩ hb9
        · intro ts W hb hB hp; have h6 := hp 6 (by kernel_rfl); intro K hK; simp only [fillT, Nat.zero_add, Nat.reduceAdd, sA, sB, sC] at hK ⊢; have HK := hid hK; clear hK hp; refine ⟨?_⟩; go_simp; exact HK.out _ _ h6 rfB
        · intro ts W hb hB hp; have h7 := hp 7 (by kernel_rfl); intro K hK; simp only [fillT, Nat.zero_add, Nat.reduceAdd, sA, sB, sC] at hK ⊢; have HK := hid hK; clear hK hp; obtain ⟨u0, e0, k0⟩ := h7; simp only [e0] at HK ⊢; refine ⟨?_⟩; go_simp; exact HK.out _ _ k0 rfB
        · intro ts W hb hB hp; have h7 := hp 7 (by kernel_rfl); intro K hK; simp only [fillT, Nat.zero_add, Nat.reduceAdd, sA, sB, sC] at hK ⊢; have HK := hid hK; clear hK hp; obtain ⟨u0, e0, k0⟩ := h7; simp only [e0] at HK ⊢; refine ⟨?_⟩; go_simp; exact HK.out _ _ rfl rfB
        · intro ts W hb hB hp; have h9 : ts 9 = _ := hp 9 (by kernel_rfl); intro K hK; simp only [fillT, Nat.zero_add, Nat.reduceAdd, sA, sB, sC, h9] at hK ⊢; have HK := hid hK; clear hK hp; refine ⟨?_⟩; go_simp; exact HK.out _ _ rfl rfB
        intro ts W8 hb2 hh hap
        obtain ⟨g10, e10, lo10, M10⟩ := (held_box (x := Cx.div ⟨x.im / 2, 0⟩ y7) (hh 10 (by simp)) rfl (hh 11 (by simp)) rfl (hh 8 (by simp)) rfl).blk
        have e12 := held_is (hh 12 (by simp)) rfl
        simp only [fillT, Nat.zero_add, Nat.reduceAdd, sA, sB, sC, e10, e12]
        clear hh hap e10 e12
        generalize ts 0 = v0_W8 at *
        generalize ts 1 = v1_W8 at *
        generalize ts 2 = v2_W8 at *
        generalize ts 3 = v3_W8 at *
        generalize ts 4 = v4_W8 at *
        generalize ts 5 = v5_W8 at *
        generalize ts 6 = v6_W8 at *
        generalize ts 7 = v7_W8 at *
        generalize ts 8 = v8_W8 at *
        generalize ts 9 = v9_W8 at *
        clear ts
        have M9 : NBlk W8 g9 1 (fun _ => y7) := NBlk.below (NBlk.one X9 N9) hb2
        have M2 : NBlk W8 (w.heap.size + 1) 1 (fun _ => .zero) := NBlk.below (NBlk.one X1 (IsNum.zero _)) hb2
        have n10 : g10 ≠ w.heap.size + 1 := by omega
        have n9 : g9 ≠ w.heap.size + 1 := by omega
        replace B1 := below_trans B1 hb2
        clear X0 X1 X9 N9 N6 z0 z1 z9 hb2 lo10
        go_upto_region 12 with fail
        refine region_ret [kNum (y7), kNum (Cx.div ⟨x.im / 2, 0⟩ y7), kNum (⟨0, (Cx.div ⟨x.im / 2, 0⟩ y7).re⟩), kNum (⟨y7.re, x.im / 2 / y7.re⟩), kIs (.bool true), kIs (.bool true)] 4 (w.heap.size + 1) (fun W => Below w.heap.size w W ∧ NBlk W g9 1 (fun _ => y7) ∧ NBlk W g10 1 (fun _ => Cx.div ⟨x.im / 2, 0⟩ y7)) (fun W => NBlk W (w.heap.size + 1) 1 (fun _ => .zero)) (fun W => NBlk W (w.heap.size + 1) 1 (fun _ => ⟨y7.re, x.im / 2 / y7.re⟩))
          ?fl12 ?hfl12 (by kernel_rfl) (by kernel_rfl) (by kernel_rfl) (by kernel_rfl) (by kernel_rfl) ⟨stab_num _, stab_num _, stab_num _, stab_num _, stab_is _, stab_is _, trivial⟩ (fun W W' hb h => ⟨h.1.trans (hb.mono h.1.size), h.2.1.below hb, h.2.2.below hb⟩) (fun W W' hb he h => ⟨hb.below h.1 (by omega), h.2.1.but hb he n9, h.2.2.but hb he n10⟩) (fun W W' hb h => h.below hb) (fun W W' hb h => h.below hb) ⟨B1, M9, M10⟩ M2 ⟨?_, ?_, ?_, ?_, ?_, ?_, trivial⟩ ?_
        case hfl12 => intro ts; simp only [fillT, Nat.zero_add, Nat.reduceAdd, sA, sB, sC]; rfl
        · refine free_val (by decide) ?_; intro ts W hI hp K hK; exact ⟨wp_load_elem (k := 0) rfl rfl (hI.2.1) (by omega) fun v hv => hK v W hv rfB⟩
        · refine free_val (by decide) ?_; intro ts W hI hp K hK; exact ⟨wp_load_elem (k := 0) rfl rfl (hI.2.2) (by omega) fun v hv => hK v W hv rfB⟩
        · refine free_val (by decide) ?_; intro ts W hI hp K hK; have h1 : IsNum W (ts 1) (Cx.div ⟨x.im / 2, 0⟩ y7) := hp 1 (by kernel_rfl); dsimp only at hK ⊢; have HK := hid hK; clear hK hp; refine ⟨?_⟩; go_simp; refine (HTN.out W _ h1).mono ?_; rintro e W9 ⟨r9, rfl, hr9, hb9⟩; exact HK.out _ _ hr9 hb9
        · refine free_val (by decide) ?_; intro ts W hI hp K hK; have h0 : IsNum W (ts 0) (y7) := hp 0 (by kernel_rfl); have h2 : IsNum W (ts 2) (⟨0, (Cx.div ⟨x.im / 2, 0⟩ y7).re⟩) := hp 2 (by kernel_rfl); dsimp only at hK ⊢; have HK := hid hK; clear hK hp; refine ⟨?_⟩; go_simp; refine (HAN.out W hI.1 _ _ h0 h2).mono ?_; rintro e W9 ⟨r9, rfl, hr9, hb9⟩; exact HK.out _ _ hr9 hb9
        · refine free_put ?_; intro ts W hI hE hp K hK; have h3 : IsNum W (ts 3) (⟨y7.re, x.im / 2 / y7.re⟩) := hp 3 (by kernel_rfl); exact ⟨wp_store_elem (k := 0) rfl rfl rfl hE (by omega) h3 fun wa ba xa ra => hK undef wa (ra.congr (upf_one _ _)) ba xa⟩
        · refine free_val (by decide) ?_; intro ts W hI hp K hK; dsimp only at hK ⊢; have HK := hid hK; clear hK hp; refine ⟨?_⟩; go_simp; exact HK.out _ _ rfl rfB
        intro ts W6 hI6 hp6
        have hm5 : NBlk W6 (w.heap.size + 1) 1 (fun _ => ⟨y7.re, x.im / 2 / y7.re⟩) := hp6 4 (by simp)
        have e7 : ts 5 = .bool true := hp6 5 (by simp)
        dsimp only
        obtain ⟨v5, hv5, hn5⟩ := nblk_load hm5 (k := 0) (by omega)
        have HR := hid (show RetSq IsNum w x (.returned (.tuple #[v5, .bool true])) W6 from ⟨v5, _, _, rfl, hn5, hI6.1, .inl ⟨rfl, HPP.out⟩⟩)
        rw [e7]
        clear hp6 hm5 hI6 hn5 e7
        generalize ts = us at *
        rw [Nat.mul_zero] at hv5
        have hasA : ∀ (a : Addr) (W : World), (asAddr (.pointer (some a))).run Tryz.prog W = .ok a W := fun _ _ => rfl
        go_wp2
        refine bodyPost_ret (v := .tuple #[v5, .bool true]) (by simp [results, Tryz.results37, hv5, hasA]) rfl ?_
        exact HR.out
    · have HNO := hid (no_real HM.out (fun ⟨r, hr⟩ => hn7 ⟨r, hr⟩))
      clear hn7 hz7 HQ7
      obtain ⟨t0, t1, t2, t3, t4, ty0, ty1, ty2, ty3, ty4⟩ := bx5 X1
      go_wp2
      have NB : NumBox W8 (w.heap.size + 1) := .nil t0 t1 t2 t3 t4
      refine bodyPost_ret (v := .tuple #[.agg #[.slice none 0 0, .bool false, .slice none 0 0, .bool false, .slice none 0 0], .bool false]) (by simp [results, Tryz.results37]; exact run_load5e NB _ _ _ _ _ _) rfl ?_
      exact RetSq.box B1 (by omega) NB (IsNum.zero _) (.inr ⟨rfl, rfl, HNO.out⟩) _ _ _ _ _
  · have HNO := hid (no_norm (HN.out k1))
    rw [decide_eq_false k1]
    clear k1 HY HN
    obtain ⟨t0, t1, t2, t3, t4, ty0, ty1, ty2, ty3, ty4⟩ := bx5 X1
    go_wp2
    have NB : NumBox W2 (w.heap.size + 1) := .nil t0 t1 t2 t3 t4
    refine bodyPost_ret (v := .tuple #[.agg #[.slice none 0 0, .bool false, .slice none 0 0, .bool false, .slice none 0 0], .bool false]) (by simp [results, Tryz.results37]; exact run_load5e NB _ _ _ _ _ _) rfl ?_
    exact RetSq.box B1 (by omega) NB (IsNum.zero _) (.inr ⟨rfl, rfl, HNO.out⟩) _ _ _ _ _
end Go.Proofs.YtccldiokpgjocaaGreatDoor
