import Derived.IntWalk
import Derived.Test.YtccldiokpgjocaaGreatDoorR14
import Derived.Test.YtccldiokpgjocaaGreatDoorR17
import Derived.Test.YtccldiokpgjocaaGreatDoorR25
import Derived.Test.YtccldiokpgjocaaGreatDoorR26
import Derived.Test.YtccldiokpgjocaaGreatDoorR28
import Derived.Test.YtccldiokpgjocaaGreatDoorR31
import Derived.Test.YtccldiokpgjocaaGreatDoorR32
import Derived.Test.YtccldiokpgjocaaGreatDoorR33
import Derived.Test.YtccldiokpgjocaaGreatDoorR34
import Derived.Test.YtccldiokpgjocaaGreatDoorR35
import Derived.Test.YtccldiokpgjocaaGreatDoorR42
import Derived.Test.YtccldiokpgjocaaGreatDoorR45
import Derived.Test.YtccldiokpgjocaaGreatDoorR47
set_option linter.unusedSimpArgs false
set_option linter.unusedVariables false
namespace Go.Proofs.YtccldiokpgjocaaGreatDoor
open Go.RowKit
set_option maxRecDepth 100000
def RetQB (w : World) (y : Cx) (ok : Bool) (e : Ending) (w' : World) : Prop := ∃ v, e = .returned (.tuple #[v, .bool ok]) ∧ IsQ w' v y ∧ Below w.heap.size w w'
def kQB (y : Cx) (ok : Bool) : Value → World → Prop := fun v W => ∃ u, v = .tuple #[u, .bool ok] ∧ IsQ W u y
theorem stab_qb (y : Cx) (ok : Bool) : Stab (kQB y ok) := fun _ _ _ he ⟨u, e, h⟩ => ⟨u, e, h.ext he⟩
set_option maxHeartbeats 2000000 in
theorem rroot_at (v : Value) (x : Cx) (w : World) (h : IsQ w v x) (m : Nat) (hx : Sz x m) (hm : m < 4294967296) (s t : Nat) (hst : ∀ a b d, Low x a b d → IsRt s a.natAbs ∧ IsRt t d) (y : Cx) (hy : y = ⟨(s : Rat) / (t : Rat), 0⟩) :
    Calls Tryz.prog 93 #[v] w (RetQB w y (decide (y.mul y = x))) := by
  obtain ⟨A1, n1, c1, p1, A1b, n1b, c1b, p1b, A1c, n1c, c1c, a1, b1, d1, rfl, hl1, hr1, hi1, hs1, hn1, hm1, hd1, hp1, hq1, hs2, hs3⟩ := h.parts
  have hsz := hx _ _ _ hl1
  have hd := hl1.1
  obtain ⟨hs4, ht1⟩ := hst _ _ _ hl1
  have hws : wl s ≤ wl a1.natAbs := wl_mono hs4.le_self
  have hwt : wl t ≤ wl d1 := wl_mono ht1.le_self
  have HN := hid (fun W (hb : Below w.heap.size w W) => rNatRoot_any _ a1.natAbs s W (hs2.below hb) hs4 (by omega))
  have HD := hid (fun W (hb : Below w.heap.size w W) => rNatRoot_any _ d1 t W (hs1.below hb) ht1 (by omega))
  have HX := hid h
  have ht0 : 0 < t := by
    rcases Nat.eq_zero_or_pos t with c | c
    · subst c
      have := ht1.2
      omega
    · exact c
  have HM := hid (fun u u' W (hu : IsNat W u s) (hu' : IsNat W u' t) => rMake_any (.agg #[.bool false, u]) (.agg #[.bool false, .slice none 0 0]) u' (s : Int) 0 t y W ⟨u, by simp, by simpa using hu⟩ (IsRI.zero _ _ _) hu' ht0
    (by rw [hy, Rat.intCast_natCast]; exact Rat.div_mul_cancel (natCast_ne ht0)) (by rw [hy]; simp) (by simp; omega) (by simp [wl_zero]) (by omega))
  have hys : Sz y (2 * m) := by
    have h1 : y.re * (t : Rat) = (((s : Int) : Rat)) := by rw [hy, Rat.intCast_natCast]; exact Rat.div_mul_cancel (natCast_ne ht0)
    exact Sz.of ht0 h1 (b := 0) (by rw [hy]; simp) (by simp; omega) (by simp [wl_zero]) (by omega)
  have HMM := hid (fun W v u (hv : IsQ W v y) (hu : IsQ W u y) => rMul_any v u y y W hv hu _ _ hys hys (by omega))
  have HSA := hid (fun W v u (hv : IsQ W v (y.mul y)) (hu : IsQ W u x) => rSame_any v u (y.mul y) x W hv hu (4 * m + 1) ((hys.mul hys).mono (by omega)) (hx.mono (by omega)) (by omega))
  clear hys hst
  clear hsz hr1 hi1 hs1 hn1 hm1 hd1 hp1 hq1 hs2 hs3 hws hwt h hl1 hs4 ht1 hd hx hy ht0
  go_enter Tryz.func93, Tryz.ntmps93
  go_upto_region 1 with fail
  obtain ⟨W1, hW1⟩ : ∃ W1 : World, W1 = (w.alloc (.cells #[.bool p1, .slice A1 n1 c1, .bool p1b, .slice A1b n1b c1b, .slice A1c n1c c1c] 34)).alloc (.cells #[.bool false, .slice none 0 0, .bool false, .slice none 0 0, .slice none 0 0] 34) := ⟨_, rfl⟩
  rw [← hW1]
  have B1 : Below w.heap.size w W1 := by rw [hW1]; exact bel
  have X := boxes2 w (.cells #[.bool p1, .slice A1 n1 c1, .bool p1b, .slice A1b n1b c1b, .slice A1c n1c c1c] 34) (.cells #[.bool false, .slice none 0 0, .bool false, .slice none 0 0, .slice none 0 0] 34)
  rw [← hW1] at X
  obtain ⟨X0, z0, X1, z1⟩ := X
  clear hW1
  refine region_lin [.val (kIs (.pointer (some ⟨w.heap.size, 0, none⟩))), .val (kIs (.pointer (some ⟨w.heap.size, 1, none⟩))), .val (kIs (.slice A1 n1 c1)), .val (kNat s), .val (kIs (.pointer (some ⟨w.heap.size, 4, none⟩))), .val (kIs (.slice A1c n1c c1c)), .val (kNat t), .val (kNat s), .val (kNat t)]
    (by kernel_rfl) (by kernel_rfl) (by kernel_rfl) (by kernel_rfl) (by kernel_rfl) ⟨Stab.b (stab_is _), Stab.b (stab_is _), Stab.b (stab_is _), stabB_nat _, Stab.b (stab_is _), Stab.b (stab_is _), stabB_nat _, stabB_nat _, stabB_nat _, trivial⟩ (by simp) ⟨?_, ?_, ?_, ?_, ?_, ?_, ?_, ?_, ?_, trivial⟩ ?_
  · exact obp
  · intro ts W hb hB hp; have h0 : ts 0 = _ := hp 0 (by kernel_rfl); intro K hK; simp only [fillT, Nat.zero_add, Nat.reduceAdd, sA, sB, sC, h0] at hK ⊢; have HK := hid hK; clear hK hp; refine ⟨?_⟩; go_simp; exact HK.out _ _ rfl rfB
  · intro ts W hb hB hp; have h1 : ts 1 = _ := hp 1 (by kernel_rfl); intro K hK; simp only [fillT, Nat.zero_add, Nat.reduceAdd, sA, sB, sC, h1] at hK ⊢; have HK := hid hK; clear hK hp; obtain ⟨f0, f1, f2, f3, f4, -, -, -, -, -⟩ := bx5 ((hb.block _ z0).trans X0); refine ⟨?_⟩; go_simp; exact HK.out _ _ rfl rfB
  · intro ts W hb hB hp; have h2 : ts 2 = _ := hp 2 (by kernel_rfl); intro K hK; simp only [fillT, Nat.zero_add, Nat.reduceAdd, sA, sB, sC, h2] at hK ⊢; have HK := hid hK; clear hK hp; refine ⟨?_⟩; go_simp; refine (HN.out W (below_trans B1 hb)).mono ?_; rintro e W9 ⟨r9, rfl, hr9, hb9⟩; exact HK.out _ _ hr9 hb9
  · exact obp
  · intro ts W hb hB hp; have h4 : ts 4 = _ := hp 4 (by kernel_rfl); intro K hK; simp only [fillT, Nat.zero_add, Nat.reduceAdd, sA, sB, sC, h4] at hK ⊢; have HK := hid hK; clear hK hp; obtain ⟨f0, f1, f2, f3, f4, -, -, -, -, -⟩ := bx5 ((hb.block _ z0).trans X0); refine ⟨?_⟩; go_simp; exact HK.out _ _ rfl rfB
  · intro ts W hb hB hp; have h5 : ts 5 = _ := hp 5 (by kernel_rfl); intro K hK; simp only [fillT, Nat.zero_add, Nat.reduceAdd, sA, sB, sC, h5] at hK ⊢; have HK := hid hK; clear hK hp; refine ⟨?_⟩; go_simp; refine (HD.out W (below_trans B1 hb)).mono ?_; rintro e W9 ⟨r9, rfl, hr9, hb9⟩; exact HK.out _ _ hr9 hb9
  · intro ts W hb hB hp; have h3 := hp 3 (by kernel_rfl); intro K hK; simp only [fillT, Nat.zero_add, Nat.reduceAdd, sA, sB, sC] at hK ⊢; have HK := hid hK; clear hK hp; refine ⟨?_⟩; go_simp; exact HK.out _ _ h3 rfB
  · intro ts W hb hB hp; have h6 := hp 6 (by kernel_rfl); intro K hK; simp only [fillT, Nat.zero_add, Nat.reduceAdd, sA, sB, sC] at hK ⊢; have HK := hid hK; clear hK hp; refine ⟨?_⟩; go_simp; exact HK.out _ _ h6 rfB
  intro ts W2 hb2 hh hap
  have H7 : IsNat W2 (ts 7) s := hh 7 (by simp)
  have H8 : IsNat W2 (ts 8) t := hh 8 (by simp)
  obtain ⟨A7, n7, c7, e7, -⟩ := H7.ex
  obtain ⟨A8, n8, c8, e8, -⟩ := H8.ex
  rw [e7] at H7
  rw [e8] at H8
  simp only [fillT, Nat.zero_add, Nat.reduceAdd, sA, sB, sC, e7, e8]
  clear hh hap e7 e8
  go_wp2_with fail
  refine (HM.out _ _ _ H7 H8).mono ?_
  rintro e W3 ⟨r3, rfl, hr3, hb3⟩
  replace X0 := (hb2.block _ z0).trans X0
  replace z0 := Nat.lt_of_lt_of_le z0 hb2.size
  replace X1 := (hb2.block _ z1).trans X1
  replace z1 := Nat.lt_of_lt_of_le z1 hb2.size
  replace B1 := below_trans B1 hb2
  clear hb2
  replace X0 := (hb3.block _ z0).trans X0
  replace z0 := Nat.lt_of_lt_of_le z0 hb3.size
  replace X1 := (hb3.block _ z1).trans X1
  replace z1 := Nat.lt_of_lt_of_le z1 hb3.size
  replace B1 := below_trans B1 hb3
  clear hb3
  obtain ⟨A9, n9, c9, p9, A9b, n9b, c9b, p9b, A9c, n9c, c9c, qa, qb, qd, rfl, -⟩ := hr3.parts
  go_upto_region 3 with fail
  obtain ⟨W4, hW4⟩ : ∃ W4 : World, W4 = W3.alloc (.cells #[.bool p9, .slice A9 n9 c9, .bool p9b, .slice A9b n9b c9b, .slice A9c n9c c9c] 34) := ⟨_, rfl⟩
  rw [← hW4]
  have D4 : Below W3.heap.size W3 W4 := by rw [hW4]; exact bel
  have X4 : W4.heap[W3.heap.size]? = some (.cells #[.bool p9, .slice A9 n9 c9, .bool p9b, .slice A9b n9b c9b, .slice A9c n9c c9c] 34 (0, 0)) := by rw [hW4]; exact heap_alloc_new _ _
  clear hW4
  have N6 : QBlk W4 W3.heap.size 1 (fun _ => True) (fun _ => y) := QBlk.one X4 fun _ => hr3.below D4
  have N1 : QBlk W4 w.heap.size 1 (fun _ => True) (fun _ => x) := QBlk.one ((D4.block _ z0).trans X0) fun _ => HX.out.below (below_trans B1 D4)
  have N2 : QBlk W4 (w.heap.size + 1) 1 (fun _ => False) (fun _ => .zero) := QBlk.one ((D4.block _ z1).trans X1) fun h => h.elim
  have B4 : Below w.heap.size w W4 := below_trans B1 D4
  have z1' := z1
  clear X0 X1 X4 D4 z0 z1 B1 hr3
  generalize W3.heap.size = g6 at *
  refine region_ret [kQ (y), kQ (y), kQ (y), kQ (y.mul y), kQ (x), kIs (.bool (decide (y.mul y = x))), kIs (.bool true), kIs (.bool (decide (y.mul y = x)))] 6 (w.heap.size + 1) (fun W => Below w.heap.size w W ∧ QBlk W g6 1 (fun _ => True) (fun _ => y) ∧ QBlk W w.heap.size 1 (fun _ => True) (fun _ => x)) (fun W => QBlk W (w.heap.size + 1) 1 (fun _ => False) (fun _ => .zero)) (fun W => QBlk W (w.heap.size + 1) 1 (fun _ => True) (fun _ => y))
    ?fl3 ?hfl3 (by kernel_rfl) (by kernel_rfl) (by kernel_rfl) (by kernel_rfl) (by kernel_rfl) ⟨stab_q _, stab_q _, stab_q _, stab_q _, stab_q _, stab_is _, stab_is _, stab_is _, trivial⟩ (fun W W' hb h => ⟨h.1.trans (hb.mono h.1.size), h.2.1.below hb, h.2.2.below hb⟩) (fun W W' hb he h => ⟨hb.below h.1 (by omega), h.2.1.but hb he (by omega), h.2.2.but hb he (by omega)⟩) (fun W W' hb h => h.below hb) (fun W W' hb h => h.below hb) ⟨B4, N6, N1⟩ N2 ⟨?_, ?_, ?_, ?_, ?_, ?_, ?_, ?_, trivial⟩ ?_
  case hfl3 => intro ts; simp only [fillT, Nat.zero_add, Nat.reduceAdd, sA, sB, sC]; rfl
  · refine free_val (by decide) ?_; intro ts W hI hp K hK; exact ⟨wp_load_qe (k := 0) rfl rfl (hI.2.1) (by omega) trivial fun v hv => hK v W hv rfB⟩
  · refine free_val (by decide) ?_; intro ts W hI hp K hK; exact ⟨wp_load_qe (k := 0) rfl rfl (hI.2.1) (by omega) trivial fun v hv => hK v W hv rfB⟩
  · refine free_val (by decide) ?_; intro ts W hI hp K hK; exact ⟨wp_load_qe (k := 0) rfl rfl (hI.2.1) (by omega) trivial fun v hv => hK v W hv rfB⟩
  · refine free_val (by decide) ?_; intro ts W hI hp K hK; have h1 : IsQ W (ts 1) (y) := hp 1 (by kernel_rfl); have h2 : IsQ W (ts 2) (y) := hp 2 (by kernel_rfl); dsimp only at hK ⊢; have HK := hid hK; clear hK hp; refine ⟨?_⟩; go_simp; refine (HMM.out W _ _ h1 h2).mono ?_; rintro e W9 ⟨r9, rfl, hr9, hb9⟩; exact HK.out _ _ hr9 hb9
  · refine free_val (by decide) ?_; intro ts W hI hp K hK; exact ⟨wp_load_qe (k := 0) rfl rfl (hI.2.2) (by omega) trivial fun v hv => hK v W hv rfB⟩
  · refine free_val (by decide) ?_; intro ts W hI hp K hK; have h3 : IsQ W (ts 3) (y.mul y) := hp 3 (by kernel_rfl); have h4 : IsQ W (ts 4) (x) := hp 4 (by kernel_rfl); dsimp only at hK ⊢; have HK := hid hK; clear hK hp; refine ⟨?_⟩; go_simp; refine (HSA.out W _ _ h3 h4).mono ?_; rintro e W9 ⟨rfl, hb9⟩; exact HK.out _ _ rfl hb9
  · refine free_put ?_; intro ts W hI hE hp K hK; have h0 : IsQ W (ts 0) (y) := hp 0 (by kernel_rfl); exact ⟨wp_store_qe (k := 0) rfl rfl rfl hE (by omega) h0 fun wa ba xa ra => hK undef wa (QBlk.to ra fun j hj _ => ⟨.inr (by omega), upf_one _ _ j hj⟩) ba xa⟩
  · refine free_val (by decide) ?_; intro ts W hI hp K hK; have h5 : ts 5 = .bool (decide (y.mul y = x)) := hp 5 (by kernel_rfl); simp only [h5] at hK ⊢; have HK := hid hK; clear hK hp; refine ⟨?_⟩; go_simp; exact HK.out _ _ rfl rfB
  intro ts W6 hI6 hp6
  have hm5 : QBlk W6 (w.heap.size + 1) 1 (fun _ => True) (fun _ => y) := hp6 6 (by simp)
  have e7 : ts 7 = .bool (decide (y.mul y = x)) := hp6 7 (by simp)
  dsimp only
  obtain ⟨v5, hv5, hn5⟩ := qblk_load hm5 (k := 0) (by omega) trivial
  have HR := hid (show RetQB w y (decide (y.mul y = x)) (.returned (.tuple #[v5, .bool (decide (y.mul y = x))])) W6 from ⟨v5, rfl, hn5, hI6.1⟩)
  rw [e7]
  clear hp6 hm5 hI6 hn5 e7
  generalize ts = us at *
  rw [Nat.mul_zero] at hv5
  have hasA : ∀ (a : Addr) (W : World), (asAddr (.pointer (some a))).run Tryz.prog W = .ok a W := fun _ _ => rfl
  go_wp2
  refine bodyPost_ret (v := .tuple #[v5, .bool (decide (y.mul y = x))]) (by simp [results, Tryz.results93, hv5, hasA]) rfl ?_
  exact HR.out
theorem rroot_det (x : Cx) (m : Nat) (hx : Sz x m) (hm : m < 4294967296) (h0 : 0 ≤ x.re) (him : x.im = 0) :
    ∃ y ok, ((ok = true ∧ IsRoot y.re x.re ∧ y.im = 0) ∨ (ok = false ∧ ¬ ∃ r : Rat, r * r = x.re)) ∧ Sz y (2 * m) ∧ ∀ v w, IsQ w v x → Calls Tryz.prog 93 #[v] w (RetQB w y ok) := by
  obtain ⟨a1, b1, d1, hl1⟩ := Low.ex x
  obtain ⟨sz1, sz2, sz3⟩ := hx _ _ _ hl1
  have hd := hl1.1
  obtain ⟨s, hs4⟩ := IsRt.ex a1.natAbs
  obtain ⟨t, ht1⟩ := IsRt.ex d1
  have hws : wl s ≤ wl a1.natAbs := wl_mono hs4.le_self
  have hwt : wl t ≤ wl d1 := wl_mono ht1.le_self
  have ht0 : 0 < t := by
    rcases Nat.eq_zero_or_pos t with c | c
    · subst c
      have := ht1.2
      omega
    · exact c
  obtain ⟨y, hy⟩ : ∃ y : Cx, y = ⟨(s : Rat) / (t : Rat), 0⟩ := ⟨_, rfl⟩
  have hyy : y.mul y = x ↔ s * s = a1.natAbs ∧ t * t = d1 := by
    obtain ⟨hg, hq⟩ := real_parts hl1 h0 him
    constructor
    · intro e
      by_cases c : s * s = a1.natAbs ∧ t * t = d1
      · exact c
      · refine absurd ⟨y.re, ?_⟩ (root_no hg hq hs4 ht1 c)
        rw [← e, hy]
        simp only [Cx.mul]
        grind
    · rintro ⟨k1, k2⟩
      have := (root_yes hd hq k1 k2).1.2
      rw [hy]
      refine Cx.ext ?_ ?_
      · simp only [Cx.mul]
        grind
      · simp only [Cx.mul, him]
        grind
  have HY : (decide (y.mul y = x) = true ∧ IsRoot y.re x.re ∧ y.im = 0) ∨ (decide (y.mul y = x) = false ∧ ¬ ∃ r : Rat, r * r = x.re) := by
    obtain ⟨hg, hq⟩ := real_parts hl1 h0 him
    by_cases c : s * s = a1.natAbs ∧ t * t = d1
    · refine .inl ⟨decide_eq_true (hyy.2 c), ?_, by rw [hy]⟩
      rw [hy]
      exact (root_yes hd hq c.1 c.2).1
    · exact .inr ⟨decide_eq_false fun e => c (hyy.1 e), root_no hg hq hs4 ht1 c⟩
  have hys : Sz y (2 * m) := by
    have h1 : y.re * (t : Rat) = (((s : Int) : Rat)) := by rw [hy, Rat.intCast_natCast]; exact Rat.div_mul_cancel (natCast_ne ht0)
    exact Sz.of ht0 h1 (b := 0) (by rw [hy]; simp) (by simp; omega) (by simp [wl_zero]) (by omega)
  refine ⟨y, _, HY, hys, fun v w h => rroot_at v x w h m hx hm s t (fun a b d hl => ?_) y hy⟩
  obtain ⟨rfl, rfl, rfl⟩ := hl.uniq hl1
  exact ⟨hs4, ht1⟩
end Go.Proofs.YtccldiokpgjocaaGreatDoor
