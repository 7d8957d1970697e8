import Derived.IntWalk
import Derived.Test.YtccldiokpgjocaaGreatDoorR14
import Derived.Test.YtccldiokpgjocaaGreatDoorR17
import Derived.Test.YtccldiokpgjocaaGreatDoorR25
import Derived.Test.YtccldiokpgjocaaGreatDoorR26
import Derived.Test.YtccldiokpgjocaaGreatDoorR28
import Derived.Test.YtccldiokpgjocaaGreatDoorR31
import Derived.Test.YtccldiokpgjocaaGreatDoorR32
import Derived.Test.YtccldiokpgjocaaGreatDoorR33
import Derived.Test.YtccldiokpgjocaaGreatDoorR34
import Derived.Test.YtccldiokpgjocaaGreatDoorR35
import Derived.Test.YtccldiokpgjocaaGreatDoorR42
import Derived.Test.YtccldiokpgjocaaGreatDoorR45
import Derived.Test.YtccldiokpgjocaaGreatDoorR46
import Derived.Test.YtccldiokpgjocaaGreatDoorR48
set_option linter.unusedSimpArgs false
set_option linter.unusedVariables false
namespace Go.Proofs.YtccldiokpgjocaaGreatDoor
open Go.RowKit
set_option maxRecDepth 100000
theorem two_natQ (w : World) : IsNat (w.alloc (.cells #[.int .u32 2] 45)) (.slice (some ⟨w.heap.size, 0, none⟩) 1 1) 2 := by
  have h : Wn (w.alloc (.cells #[.int .u32 2] 45)) (some ⟨w.heap.size, 0, none⟩) 1 (fun _ => 2) := fun _ => ⟨_, _, rfl, by simp, fun j hj => by
    have : j = 0 := by omega
    subst this
    simp⟩
  have := IsNat.mk (c := 1) h (fun _ _ => show (2 : Nat) < 4294967296 by omega) (fun _ => show (2 : Nat) ≠ 0 by omega) (Nat.le_refl _)
  rw [vs_one] at this
  exact this
theorem stab_riv (z : Int) : Stab (kRI z) := fun _ _ _ he h => IsRI.ext h he
theorem one_runV (W : World) : (Instr.buildSlice 25 1 #[(0, .int .u32 1)]).run Tryz.prog W =
    .ok (.slice (some ⟨W.heap.size, 0, none⟩) 1 1) (W.alloc (.cells #[.int .u32 1] 45)) := by simp [go_sem]
def Cx.half : Cx := ⟨1 / 2, 0⟩
def Cx.i : Cx := ⟨0, 1⟩
theorem sz_half : Sz .half 1 := Sz.of (a := 1) (b := 0) (d := 2) (by omega) (by simp [Cx.half]; grind) (by simp [Cx.half]) (by simp [wl_one]) (by simp [wl_zero]) (wl_le_of (n := 1) (by simp))
theorem low_i : Low .i 0 1 1 := ⟨by omega, by simp, by simp [Cx.i], by simp [Cx.i]⟩
theorem sz_i : Sz .i 1 := Sz.low low_i (by simp [wl_zero]) (by simp [wl_one]) (by simp [wl_one])
theorem RetSqQ.box {w W : World} {v : Value} {y x : Cx} {ok : Bool} {g : Nat} (hb : Below w.heap.size w W) (hg : w.heap.size ≤ g) (hB : NumBox W g) (h : IsQ W v y)
    (hq : (ok = true ∧ Pri y x) ∨ (ok = false ∧ y = .zero ∧ ¬ ∃ y : Cx, y.mul y = x)) (v0 v1 v2 v3 v4 : Value) :
    RetSq IsQ w x (.returned (.tuple #[v, .bool ok])) (((((W.setCell ⟨g, 0, none⟩ v0).setCell ⟨g, 1, none⟩ v1).setCell ⟨g, 2, none⟩ v2).setCell ⟨g, 3, none⟩ v3).setCell ⟨g, 4, none⟩ v4) :=
  ⟨v, ok, y, rfl, IsQ.box5 h hB _ _ _ _ _, below_box5 hb hg _ _ _ _ _, hq⟩
theorem But.setCell (w : World) (g i : Nat) (v : Value) : But w (w.setCell ⟨g, i, none⟩ v) g :=
  ⟨rfl, rfl, rfl, by simp [World.setCell], fun k hk => by simp only [World.setCell, Array.getElem?_modify]; rw [if_neg (fun e => hk e.symm)]⟩
theorem But.trans {w w' w'' : World} {g : Nat} (h : But w w' g) (k : But w' w'' g) : But w w'' g :=
  ⟨k.os.trans h.os, k.tape.trans h.tape, k.output.trans h.output, k.size.trans h.size, fun j hj => (k.other j hj).trans (h.other j hj)⟩
theorem set5_but {W : World} {g : Nat} {T : TypeId} {a0 a1 a2 a3 a4 v0 v1 v2 v3 v4 : Value} (h : W.heap[g]? = some (.cells #[a0, a1, a2, a3, a4] T (0, 0))) (ho : oddB #[a0, a1, a2, a3, a4] = true) :
    ∃ W', W' = (((((W.setCell ⟨g, 0, none⟩ v0).setCell ⟨g, 1, none⟩ v1).setCell ⟨g, 2, none⟩ v2).setCell ⟨g, 3, none⟩ v3).setCell ⟨g, 4, none⟩ v4) ∧ But W W' g ∧ Ext W W' ∧ W'.heap[g]? = some (.cells #[v0, v1, v2, v3, v4] T (0, 0)) := by
  have hb := ((((But.setCell W g 0 v0).trans (But.setCell _ g 1 v1)).trans (But.setCell _ g 2 v2)).trans (But.setCell _ g 3 v3)).trans (But.setCell _ g 4 v4)
  refine ⟨_, rfl, hb, hb.ext h ho, ?_⟩
  simp [World.setCell, Array.getElem?_modify, h]
set_option maxHeartbeats 4000000 in
theorem rsqrt_any (v : Value) (x : Cx) (w : World) (h : IsQ w v x) (m : Nat) (hx : Sz x m) (hm : m < 16777216) :
    Calls Tryz.prog 38 #[v] w (RetSq IsQ w x) := by
  have HX := hid h
  obtain ⟨A1, n1, c1, p1, A1b, n1b, c1b, p1b, A1c, n1c, c1c, a1, b1, d1, rfl, hl1, hr1, hi1, hs1, hn1, hm1, hd1, hp1, hq1, -, -⟩ := h.parts
  have HZ := hid (fun W (hb : Below w.heap.size w W) => rZero_any _ x W (HX.out.below hb))
  have HNO := hid (fun W (hb : Below w.heap.size w W) => rNorm_any _ x W (HX.out.below hb) m hx (by omega))
  have HRE := hid (fun W (hb : Below w.heap.size w W) => rRe_any _ x W (HX.out.below hb) m hx (by omega))
  have hsg : p1b = true ↔ x.im < 0 := by
    have hq : p1b = decide (b1 < 0) := hq1
    rw [hq, decide_eq_true_iff]
    have h1 := hl1.2.2.2
    have h2 : (0 : Rat) < (d1 : Rat) := by
      have := hl1.pos
      exact_mod_cast this
    constructor
    · intro k
      have k1 : (b1 : Rat) < 0 := Rat.intCast_neg_iff.2 k
      rcases Rat.le_total (a := 0) (b := x.im) with c | c
      · have := Rat.mul_nonneg c (Rat.le_of_lt h2)
        grind
      · by_cases e : x.im = 0
        · rw [e] at h1; grind
        · grind
    · intro k
      have k1 : (b1 : Rat) < 0 := by
        have : 0 < (-x.im) * (d1 : Rat) := Rat.mul_pos (by grind) h2
        grind
      exact Rat.intCast_neg_iff.1 k1
  clear h hr1 hi1 hs1 hn1 hm1 hd1 hp1 hq1 hl1
  by_cases k0 : x = .zero
  · have HK0 := hid (show Pri x x from by rw [k0]; exact ⟨by apply Cx.ext <;> simp only [Cx.mul, Cx.zero] <;> grind, .inr ⟨rfl, Rat.le_refl⟩⟩)
    rw [decide_eq_true k0] at HZ
    clear k0 hx hm HNO HRE hsg
    go_enter Tryz.func38, Tryz.ntmps38
    go_upto_region 1 with fail
    obtain ⟨W1, hW1⟩ : ∃ W1 : World, W1 = (w.alloc (.cells #[.bool p1, .slice A1 n1 c1, .bool p1b, .slice A1b n1b c1b, .slice A1c n1c c1c] 34)).alloc (.cells #[.bool false, .slice none 0 0, .bool false, .slice none 0 0, .slice none 0 0] 34) := ⟨_, rfl⟩
    rw [← hW1]
    have B1 : Below w.heap.size w W1 := by rw [hW1]; exact bel
    have X := boxes2 w (.cells #[.bool p1, .slice A1 n1 c1, .bool p1b, .slice A1b n1b c1b, .slice A1c n1c c1c] 34) (.cells #[.bool false, .slice none 0 0, .bool false, .slice none 0 0, .slice none 0 0] 34)
    rw [← hW1] at X
    obtain ⟨X0, z0, X1, z1⟩ := X
    clear hW1
    obtain ⟨f0, f1, f2, f3, f4, fy0, fy1, fy2, fy3, fy4⟩ := bx5 X0
    go_wp2_with fail
    refine (HZ.out _ B1).mono ?_
    rintro e W2 ⟨rfl, hb2⟩
    clear f0 f1 f2 f3 f4 fy0 fy1 fy2 fy3 fy4
    replace X0 := (hb2.block _ z0).trans X0
    replace z0 := Nat.lt_of_lt_of_le z0 hb2.size
    replace X1 := (hb2.block _ z1).trans X1
    replace z1 := Nat.lt_of_lt_of_le z1 hb2.size
    replace B1 := below_trans B1 hb2
    clear hb2
    obtain ⟨f0, f1, f2, f3, f4, fy0, fy1, fy2, fy3, fy4⟩ := bx5 X0
    obtain ⟨t0, t1, t2, t3, t4, ty0, ty1, ty2, ty3, ty4⟩ := bx5 X1
    go_wp2
    have NB : NumBox W2 (w.heap.size + 1) := .nilQ t0 t1 t2 t3 t4
    refine bodyPost_ret (v := .tuple #[.agg #[.bool p1, .slice A1 n1 c1, .bool p1b, .slice A1b n1b c1b, .slice A1c n1c c1c], .bool true]) (by simp [results, Tryz.results38]; exact run_loadQe NB _ _ _ _ _ _) rfl ?_
    exact RetSqQ.box B1 (by omega) NB (HX.out.below B1) (.inl ⟨rfl, HK0.out⟩) _ _ _ _ _
  · rw [decide_eq_false k0] at HZ
    obtain ⟨y4, ok4, h4, z4', C4⟩ := rroot_det x.norm (2 * m + 1) hx.norm (by omega) (by simp only [Cx.norm, Cx.nrm]; have := sq_nonneg x.re; have := sq_nonneg x.im; grind) rfl
    have HC4 := hid C4
    clear k0 C4
    rcases h4 with ⟨rfl, hr4, hi4⟩ | ⟨rfl, hn4⟩
    rotate_left
    · have HNN := hid (no_norm (x := x) hn4)
      clear hn4 hx hm hsg HRE
      go_enter Tryz.func38, Tryz.ntmps38
      go_upto_region 1 with fail
      obtain ⟨W1, hW1⟩ : ∃ W1 : World, W1 = (w.alloc (.cells #[.bool p1, .slice A1 n1 c1, .bool p1b, .slice A1b n1b c1b, .slice A1c n1c c1c] 34)).alloc (.cells #[.bool false, .slice none 0 0, .bool false, .slice none 0 0, .slice none 0 0] 34) := ⟨_, rfl⟩
      rw [← hW1]
      have B1 : Below w.heap.size w W1 := by rw [hW1]; exact bel
      have X := boxes2 w (.cells #[.bool p1, .slice A1 n1 c1, .bool p1b, .slice A1b n1b c1b, .slice A1c n1c c1c] 34) (.cells #[.bool false, .slice none 0 0, .bool false, .slice none 0 0, .slice none 0 0] 34)
      rw [← hW1] at X
      obtain ⟨X0, z0, X1, z1⟩ := X
      clear hW1
      obtain ⟨f0, f1, f2, f3, f4, fy0, fy1, fy2, fy3, fy4⟩ := bx5 X0
      go_wp2_with fail
      refine (HZ.out _ B1).mono ?_
      rintro e W2 ⟨rfl, hb2⟩
      clear f0 f1 f2 f3 f4 fy0 fy1 fy2 fy3 fy4
      replace X0 := (hb2.block _ z0).trans X0
      replace z0 := Nat.lt_of_lt_of_le z0 hb2.size
      replace X1 := (hb2.block _ z1).trans X1
      replace z1 := Nat.lt_of_lt_of_le z1 hb2.size
      replace B1 := below_trans B1 hb2
      clear hb2
      obtain ⟨f0, f1, f2, f3, f4, fy0, fy1, fy2, fy3, fy4⟩ := bx5 X0
      go_wp2_with fail
      refine (HNO.out _ B1).mono ?_
      rintro e W3 ⟨u3, rfl, hu3, hb3⟩
      clear f0 f1 f2 f3 f4 fy0 fy1 fy2 fy3 fy4
      replace X0 := (hb3.block _ z0).trans X0
      replace z0 := Nat.lt_of_lt_of_le z0 hb3.size
      replace X1 := (hb3.block _ z1).trans X1
      replace z1 := Nat.lt_of_lt_of_le z1 hb3.size
      replace B1 := below_trans B1 hb3
      clear hb3
      go_wp2_with fail
      refine (HC4.out _ _ hu3).mono ?_
      rintro e W4 ⟨v4, rfl, N4, hb4⟩
      replace X0 := (hb4.block _ z0).trans X0
      replace z0 := Nat.lt_of_lt_of_le z0 hb4.size
      replace X1 := (hb4.block _ z1).trans X1
      replace z1 := Nat.lt_of_lt_of_le z1 hb4.size
      replace B1 := below_trans B1 hb4
      clear hb4
      clear hu3
      obtain ⟨A4, n4, c4, p4, A4b, n4b, c4b, p4b, A4c, n4c, c4c, qa, qb, qd, rfl, -⟩ := N4.parts
      go_upto_region 4 with fail
      obtain ⟨W5, hW5⟩ : ∃ W5 : World, W5 = W4.alloc (.cells #[.bool p4, .slice A4 n4 c4, .bool p4b, .slice A4b n4b c4b, .slice A4c n4c c4c] 34) := ⟨_, rfl⟩
      rw [← hW5]
      have DW5 : Below W4.heap.size W4 W5 := by rw [hW5]; exact bel
      have X4 : W5.heap[W4.heap.size]? = some (.cells #[.bool p4, .slice A4 n4 c4, .bool p4b, .slice A4b n4b c4b, .slice A4c n4c c4c] 34 (0, 0)) := by rw [hW5]; exact heap_alloc_new _ _
      have z4 : W4.heap.size < W5.heap.size := by rw [hW5]; simp
      have l4 : w.heap.size + 1 < W4.heap.size := z1
      clear hW5
      replace X0 := (DW5.block _ z0).trans X0
      replace z0 := Nat.lt_of_lt_of_le z0 DW5.size
      replace X1 := (DW5.block _ z1).trans X1
      replace z1 := Nat.lt_of_lt_of_le z1 DW5.size
      replace N4 := IsQ.below N4 DW5
      replace B1 := below_trans B1 DW5
      clear DW5
      generalize W4.heap.size = g4 at *
      go_wp2_with fail
      refine (rWhole_any 0 _ (by omega) (by omega)).mono ?_
      rintro e V7 ⟨u7, rfl, hu7, hv7⟩
      replace X1 := (hv7.block _ z1).trans X1
      replace z1 := Nat.lt_of_lt_of_le z1 hv7.size
      replace B1 := below_trans B1 hv7
      clear hv7
      obtain ⟨A7, n7, c7, p7, A7b, n7b, c7b, p7b, A7c, n7c, c7c, qa7, qb7, qd7, rfl, -⟩ := hu7.parts
      have HU7 := hid hu7
      clear hu7
      obtain ⟨t0, t1, t2, t3, t4, ty0, ty1, ty2, ty3, ty4⟩ := bx5 X1
      go_wp2
      have NB : NumBox V7 (w.heap.size + 1) := .nilQ t0 t1 t2 t3 t4
      refine bodyPost_ret (v := .tuple #[.agg #[.bool p7, .slice A7 n7 c7, .bool p7b, .slice A7b n7b c7b, .slice A7c n7c c7c], .bool false]) (by simp [results, Tryz.results38]; exact run_loadQe NB _ _ _ _ _ _) rfl ?_
      exact RetSqQ.box B1 (by omega) NB HU7.out (.inr ⟨rfl, rfl, HNN.out⟩) _ _ _ _ _
    · have HM : IsRoot y4.re (x.re * x.re + x.im * x.im) := hr4
      have g7 := norm_ge HM
      have e7 : ((x.real.add y4).mul .half).re = (y4.re + x.re) / 2 := by simp only [Cx.mul, Cx.add, Cx.real, Cx.half, hi4]; grind
      have e7' : ((x.real.add y4).mul .half).im = 0 := by simp only [Cx.mul, Cx.add, Cx.real, Cx.half, hi4]; grind
      have e8 : ((y4.sub x.real).mul .half).re = (y4.re - x.re) / 2 := by simp only [Cx.mul, Cx.sub, Cx.real, Cx.half, hi4]; grind
      have e8' : ((y4.sub x.real).mul .half).im = 0 := by simp only [Cx.mul, Cx.sub, Cx.real, Cx.half, hi4]; grind
      have sA := hx.real.add z4'
      have sB := z4'.sub hx.real
      obtain ⟨y7, ok7, h7, s7, C7⟩ := rroot_det ((x.real.add y4).mul .half) (8 * m + 20) ((sA.mul sz_half).mono (by omega)) (by omega) (by rw [e7]; exact g7.1) e7'
      obtain ⟨y8, ok8, h8, s8, C8⟩ := rroot_det ((y4.sub x.real).mul .half) (8 * m + 20) ((sB.mul sz_half).mono (by omega)) (by omega) (by rw [e8]; exact g7.2) e8'
      rw [e7] at h7
      rw [e8] at h8
      have HR7 := hid C7
      have HR8 := hid C8
      have HPL := hid (fun W v u (hv : IsQ W v x.real) (hu : IsQ W u y4) => rAdd_any v u _ _ W hv hu _ _ hx.real z4' (by omega))
      have HMI := hid (fun W v u (hv : IsQ W v y4) (hu : IsQ W u x.real) => rSub_any v u _ _ W hv hu _ _ z4' hx.real (by omega))
      have HMA := hid (fun W v u (hv : IsQ W v (x.real.add y4)) (hu : IsQ W u .half) => rMul_any v u _ _ W hv hu _ _ sA sz_half (by omega))
      have HMB := hid (fun W v u (hv : IsQ W v (y4.sub x.real)) (hu : IsQ W u .half) => rMul_any v u _ _ W hv hu _ _ sB sz_half (by omega))
      have HHF := hid (fun W v u (h1 : IsRI W v 1) (h2 : IsNat W u 2) => rMake_any v (.agg #[.bool false, .slice none 0 0]) u 1 0 2 .half W h1 (IsRI.zero _ _ _) h2 (by omega) (by simp [Cx.half]; grind) (by simp [Cx.half]) (by simp [wl_one]) (by simp [wl_zero]) (by have : wl 2 ≤ 1 := wl_le_of (n := 1) (by simp); omega))
      have HMM := hid HM
      have HI4 := hid hi4
      have HS7 := hid s7
      have HS8 := hid s8
      have HSG := hid hsg
      clear e7 e7' e8 e8' sA sB C7 C8 g7 HM hr4 hi4 z4' s7 s8 hsg
      go_enter Tryz.func38, Tryz.ntmps38
      go_upto_region 1 with fail
      obtain ⟨W1, hW1⟩ : ∃ W1 : World, W1 = (w.alloc (.cells #[.bool p1, .slice A1 n1 c1, .bool p1b, .slice A1b n1b c1b, .slice A1c n1c c1c] 34)).alloc (.cells #[.bool false, .slice none 0 0, .bool false, .slice none 0 0, .slice none 0 0] 34) := ⟨_, rfl⟩
      rw [← hW1]
      have B1 : Below w.heap.size w W1 := by rw [hW1]; exact bel
      have X := boxes2 w (.cells #[.bool p1, .slice A1 n1 c1, .bool p1b, .slice A1b n1b c1b, .slice A1c n1c c1c] 34) (.cells #[.bool false, .slice none 0 0, .bool false, .slice none 0 0, .slice none 0 0] 34)
      rw [← hW1] at X
      obtain ⟨X0, z0, X1, z1⟩ := X
      clear hW1
      obtain ⟨f0, f1, f2, f3, f4, fy0, fy1, fy2, fy3, fy4⟩ := bx5 X0
      go_wp2_with fail
      refine (HZ.out _ B1).mono ?_
      rintro e W2 ⟨rfl, hb2⟩
      clear f0 f1 f2 f3 f4 fy0 fy1 fy2 fy3 fy4
      replace X0 := (hb2.block _ z0).trans X0
      replace z0 := Nat.lt_of_lt_of_le z0 hb2.size
      replace X1 := (hb2.block _ z1).trans X1
      replace z1 := Nat.lt_of_lt_of_le z1 hb2.size
      replace B1 := below_trans B1 hb2
      clear hb2
      obtain ⟨f0, f1, f2, f3, f4, fy0, fy1, fy2, fy3, fy4⟩ := bx5 X0
      go_wp2_with fail
      refine (HNO.out _ B1).mono ?_
      rintro e W3 ⟨u3, rfl, hu3, hb3⟩
      clear f0 f1 f2 f3 f4 fy0 fy1 fy2 fy3 fy4
      replace X0 := (hb3.block _ z0).trans X0
      replace z0 := Nat.lt_of_lt_of_le z0 hb3.size
      replace X1 := (hb3.block _ z1).trans X1
      replace z1 := Nat.lt_of_lt_of_le z1 hb3.size
      replace B1 := below_trans B1 hb3
      clear hb3
      go_wp2_with fail
      refine (HC4.out _ _ hu3).mono ?_
      rintro e W4 ⟨v4, rfl, N4, hb4⟩
      replace X0 := (hb4.block _ z0).trans X0
      replace z0 := Nat.lt_of_lt_of_le z0 hb4.size
      replace X1 := (hb4.block _ z1).trans X1
      replace z1 := Nat.lt_of_lt_of_le z1 hb4.size
      replace B1 := below_trans B1 hb4
      clear hb4
      clear hu3
      obtain ⟨A4, n4, c4, p4, A4b, n4b, c4b, p4b, A4c, n4c, c4c, qa, qb, qd, rfl, -⟩ := N4.parts
      go_upto_region 4 with fail
      obtain ⟨W5, hW5⟩ : ∃ W5 : World, W5 = W4.alloc (.cells #[.bool p4, .slice A4 n4 c4, .bool p4b, .slice A4b n4b c4b, .slice A4c n4c c4c] 34) := ⟨_, rfl⟩
      rw [← hW5]
      have DW5 : Below W4.heap.size W4 W5 := by rw [hW5]; exact bel
      have X4 : W5.heap[W4.heap.size]? = some (.cells #[.bool p4, .slice A4 n4 c4, .bool p4b, .slice A4b n4b c4b, .slice A4c n4c c4c] 34 (0, 0)) := by rw [hW5]; exact heap_alloc_new _ _
      have z4 : W4.heap.size < W5.heap.size := by rw [hW5]; simp
      have l4 : w.heap.size + 1 < W4.heap.size := z1
      clear hW5
      replace X0 := (DW5.block _ z0).trans X0
      replace z0 := Nat.lt_of_lt_of_le z0 DW5.size
      replace X1 := (DW5.block _ z1).trans X1
      replace z1 := Nat.lt_of_lt_of_le z1 DW5.size
      replace N4 := IsQ.below N4 DW5
      replace B1 := below_trans B1 DW5
      clear DW5
      generalize W4.heap.size = g4 at *
      go_wp2_with fail
      refine (rIntOf_any 1 _ (by omega) (by omega)).mono ?_
      rintro e W6 ⟨u6, rfl, hu6, hb6⟩
      replace X0 := (hb6.block _ z0).trans X0
      replace z0 := Nat.lt_of_lt_of_le z0 hb6.size
      replace X1 := (hb6.block _ z1).trans X1
      replace z1 := Nat.lt_of_lt_of_le z1 hb6.size
      replace X4 := (hb6.block _ z4).trans X4
      replace z4 := Nat.lt_of_lt_of_le z4 hb6.size
      replace N4 := IsQ.below N4 hb6
      replace B1 := below_trans B1 hb6
      clear hb6
      go_wp2_with fail
      refine (HHF.out _ _ _ (hu6.below (below_alloc _ _)) (two_natQ _)).mono ?_
      rintro e W7 ⟨u7, rfl, N6, hb7⟩
      have hb7 := below_trans (below_alloc _ _) hb7
      replace X0 := (hb7.block _ z0).trans X0
      replace z0 := Nat.lt_of_lt_of_le z0 hb7.size
      replace X1 := (hb7.block _ z1).trans X1
      replace z1 := Nat.lt_of_lt_of_le z1 hb7.size
      replace X4 := (hb7.block _ z4).trans X4
      replace z4 := Nat.lt_of_lt_of_le z4 hb7.size
      replace N4 := IsQ.below N4 hb7
      replace B1 := below_trans B1 hb7
      clear hb7
      clear hu6
      obtain ⟨A6, n6, c6, p6, A6b, n6b, c6b, p6b, A6c, n6c, c6c, ra, rb, rd, rfl, -⟩ := N6.parts
      go_upto_region 7 with fail
      obtain ⟨W8, hW8⟩ : ∃ W8 : World, W8 = W7.alloc (.cells #[.bool p6, .slice A6 n6 c6, .bool p6b, .slice A6b n6b c6b, .slice A6c n6c c6c] 34) := ⟨_, rfl⟩
      rw [← hW8]
      have DW8 : Below W7.heap.size W7 W8 := by rw [hW8]; exact bel
      have X6 : W8.heap[W7.heap.size]? = some (.cells #[.bool p6, .slice A6 n6 c6, .bool p6b, .slice A6b n6b c6b, .slice A6c n6c c6c] 34 (0, 0)) := by rw [hW8]; exact heap_alloc_new _ _
      have z6 : W7.heap.size < W8.heap.size := by rw [hW8]; simp
      have l6 : w.heap.size + 1 < W7.heap.size := z1
      clear hW8
      replace X0 := (DW8.block _ z0).trans X0
      replace z0 := Nat.lt_of_lt_of_le z0 DW8.size
      replace X1 := (DW8.block _ z1).trans X1
      replace z1 := Nat.lt_of_lt_of_le z1 DW8.size
      replace X4 := (DW8.block _ z4).trans X4
      replace z4 := Nat.lt_of_lt_of_le z4 DW8.size
      replace N4 := IsQ.below N4 DW8
      replace N6 := IsQ.below N6 DW8
      replace B1 := below_trans B1 DW8
      clear DW8
      generalize W7.heap.size = g6 at *
      refine region_lin [.val (kIs (.agg #[.bool p1, .slice A1 n1 c1, .bool p1b, .slice A1b n1b c1b, .slice A1c n1c c1c])), .val (kQ x.real), .val (kIs (.agg #[.bool p4, .slice A4 n4 c4, .bool p4b, .slice A4b n4b c4b, .slice A4c n4c c4c])), .val (kQ (x.real.add y4)), .val (kIs (.agg #[.bool p6, .slice A6 n6 c6, .bool p6b, .slice A6b n6b c6b, .slice A6c n6c c6c])), .val (kQ ((x.real.add y4).mul .half)), .val (kQB y7 ok7), .val (kQB y7 ok7), .val (kQ y7), .val (kIs (.bool ok7)), .box 34 zQ, .put 10 8, .val (kIs (.bool ok7))]
        (by kernel_rfl) (by kernel_rfl) (by kernel_rfl) (by kernel_rfl) (by kernel_rfl) ⟨stab_is _, stab_q _, stab_is _, stab_q _, stab_is _, stab_q _, stab_qb _ _, stab_qb _ _, stab_q _, stab_is _, stab_is _, trivial⟩ (by simp) ⟨?_, ?_, ?_, ?_, ?_, ?_, ?_, ?_, ?_, ?_, alloc_q, store_q _, ?_, trivial⟩ ?_
      · intro ts W hb hB hp; intro K hK; simp only [fillT, Nat.zero_add, Nat.reduceAdd, sA, sB, sC] at hK ⊢; have HK := hid hK; clear hK hp; obtain ⟨f0, f1, f2, f3, f4, -, -, -, -, -⟩ := bx5 ((hb.block _ z0).trans X0); refine ⟨?_⟩; go_simp; exact HK.out _ _ rfl rfB
      · intro ts W hb hB hp; have h0 : ts 0 = _ := hp 0 (by kernel_rfl); intro K hK; simp only [fillT, Nat.zero_add, Nat.reduceAdd, sA, sB, sC, h0] at hK ⊢; have HK := hid hK; clear hK hp; refine ⟨?_⟩; go_simp; refine (HRE.out W (below_trans B1 hb)).mono ?_; rintro e W9 ⟨r9, rfl, hr9, hb9⟩; exact HK.out _ _ hr9 hb9
      · intro ts W hb hB hp; intro K hK; simp only [fillT, Nat.zero_add, Nat.reduceAdd, sA, sB, sC] at hK ⊢; have HK := hid hK; clear hK hp; obtain ⟨f0, f1, f2, f3, f4, -, -, -, -, -⟩ := bx5 ((hb.block _ z4).trans X4); refine ⟨?_⟩; go_simp; exact HK.out _ _ rfl rfB
      · intro ts W hb hB hp; have h1 := hp 1 (by kernel_rfl); have h2 : ts 2 = _ := hp 2 (by kernel_rfl); intro K hK; simp only [fillT, Nat.zero_add, Nat.reduceAdd, sA, sB, sC, h2] at hK ⊢; have HK := hid hK; clear hK hp; refine ⟨?_⟩; go_simp; refine (HPL.out W _ _ h1 (IsQ.below N4 hb)).mono ?_; rintro e W9 ⟨r9, rfl, hr9, hb9⟩; exact HK.out _ _ hr9 hb9
      · intro ts W hb hB hp; intro K hK; simp only [fillT, Nat.zero_add, Nat.reduceAdd, sA, sB, sC] at hK ⊢; have HK := hid hK; clear hK hp; obtain ⟨f0, f1, f2, f3, f4, -, -, -, -, -⟩ := bx5 ((hb.block _ z6).trans X6); refine ⟨?_⟩; go_simp; exact HK.out _ _ rfl rfB
      · intro ts W hb hB hp; have h3 := hp 3 (by kernel_rfl); have h4 : ts 4 = _ := hp 4 (by kernel_rfl); intro K hK; simp only [fillT, Nat.zero_add, Nat.reduceAdd, sA, sB, sC, h4] at hK ⊢; have HK := hid hK; clear hK hp; refine ⟨?_⟩; go_simp; refine (HMA.out W _ _ h3 (IsQ.below N6 hb)).mono ?_; rintro e W9 ⟨r9, rfl, hr9, hb9⟩; exact HK.out _ _ hr9 hb9
      · intro ts W hb hB hp; have h5 := hp 5 (by kernel_rfl); intro K hK; simp only [fillT, Nat.zero_add, Nat.reduceAdd, sA, sB, sC] at hK ⊢; have HK := hid hK; clear hK hp; refine ⟨?_⟩; go_simp; refine (HR7.out _ W h5).mono ?_; rintro e W9 ⟨r9, rfl, hr9, hb9⟩; exact HK.out _ _ ⟨_, rfl, hr9⟩ hb9
      · intro ts W hb hB hp; have h6 := hp 6 (by kernel_rfl); intro K hK; simp only [fillT, Nat.zero_add, Nat.reduceAdd, sA, sB, sC] at hK ⊢; have HK := hid hK; clear hK hp; refine ⟨?_⟩; go_simp; exact HK.out _ _ h6 rfB
      · intro ts W hb hB hp; have h7 := hp 7 (by kernel_rfl); intro K hK; simp only [fillT, Nat.zero_add, Nat.reduceAdd, sA, sB, sC] at hK ⊢; have HK := hid hK; clear hK hp; obtain ⟨u0, e0, k0⟩ := h7; simp only [e0] at HK ⊢; refine ⟨?_⟩; go_simp; exact HK.out _ _ k0 rfB
      · intro ts W hb hB hp; have h7 := hp 7 (by kernel_rfl); intro K hK; simp only [fillT, Nat.zero_add, Nat.reduceAdd, sA, sB, sC] at hK ⊢; have HK := hid hK; clear hK hp; obtain ⟨u0, e0, k0⟩ := h7; simp only [e0] at HK ⊢; refine ⟨?_⟩; go_simp; exact HK.out _ _ rfl rfB
      · intro ts W hb hB hp; have h9 : ts 9 = _ := hp 9 (by kernel_rfl); intro K hK; simp only [fillT, Nat.zero_add, Nat.reduceAdd, sA, sB, sC, h9] at hK ⊢; have HK := hid hK; clear hK hp; refine ⟨?_⟩; go_simp; exact HK.out _ _ rfl rfB
      intro ts W9 hb2 hh hap
      obtain ⟨g7, A7, n7, c7, p7, A7b, n7b, c7b, p7b, A7c, n7c, c7c, e7, lo7, z7, X7, N7⟩ := held_boxQ (x := y7) (hh 10 (by simp)) rfl (hh 11 (by simp)) rfl (hh 8 (by simp)) rfl
      have ea7 := held_is (hh 12 (by simp)) rfl
      simp only [fillT, Nat.zero_add, Nat.reduceAdd, sA, sB, sC, e7, ea7]
      clear hh hap e7 ea7
      have ln7 : w.heap.size + 1 < g7 := Nat.lt_of_lt_of_le z1 lo7
      generalize ts 0 = v0_W9 at *
      generalize ts 1 = v1_W9 at *
      generalize ts 2 = v2_W9 at *
      generalize ts 3 = v3_W9 at *
      generalize ts 4 = v4_W9 at *
      generalize ts 5 = v5_W9 at *
      generalize ts 6 = v6_W9 at *
      generalize ts 7 = v7_W9 at *
      generalize ts 8 = v8_W9 at *
      generalize ts 9 = v9_W9 at *
      clear ts
      replace X0 := (hb2.block _ z0).trans X0
      replace z0 := Nat.lt_of_lt_of_le z0 hb2.size
      replace X1 := (hb2.block _ z1).trans X1
      replace z1 := Nat.lt_of_lt_of_le z1 hb2.size
      replace X4 := (hb2.block _ z4).trans X4
      replace z4 := Nat.lt_of_lt_of_le z4 hb2.size
      replace X6 := (hb2.block _ z6).trans X6
      replace z6 := Nat.lt_of_lt_of_le z6 hb2.size
      replace N4 := IsQ.below N4 hb2
      replace N6 := IsQ.below N6 hb2
      replace B1 := below_trans B1 hb2
      clear hb2
      rcases h7 with ⟨rfl, hr7, hi7⟩ | ⟨rfl, hn7⟩
      rotate_left
      · have HNN := hid (no_real HMM.out hn7)
        clear hn7 h8 hx hm
        go_wp2_with fail
        refine (rWhole_any 0 _ (by omega) (by omega)).mono ?_
        rintro e V9 ⟨u9, rfl, hu9, hv9⟩
        replace X1 := (hv9.block _ z1).trans X1
        replace z1 := Nat.lt_of_lt_of_le z1 hv9.size
        replace B1 := below_trans B1 hv9
        clear hv9
        obtain ⟨A9, n9, c9, p9, A9b, n9b, c9b, p9b, A9c, n9c, c9c, qa9, qb9, qd9, rfl, -⟩ := hu9.parts
        have HU9 := hid hu9
        clear hu9
        obtain ⟨t0, t1, t2, t3, t4, ty0, ty1, ty2, ty3, ty4⟩ := bx5 X1
        go_wp2
        have NB : NumBox V9 (w.heap.size + 1) := .nilQ t0 t1 t2 t3 t4
        refine bodyPost_ret (v := .tuple #[.agg #[.bool p9, .slice A9 n9 c9, .bool p9b, .slice A9b n9b c9b, .slice A9c n9c c9c], .bool false]) (by simp [results, Tryz.results38]; exact run_loadQe NB _ _ _ _ _ _) rfl ?_
        exact RetSqQ.box B1 (by omega) NB HU9.out (.inr ⟨rfl, rfl, HNN.out⟩) _ _ _ _ _
      · have HRT7 := hid hr7
        have HI7 := hid hi7
        clear hr7 hi7
        go_upto_region 10 with fail
        refine region_lin [.val (kIs (.agg #[.bool p4, .slice A4 n4 c4, .bool p4b, .slice A4b n4b c4b, .slice A4c n4c c4c])), .val (kIs (.agg #[.bool p1, .slice A1 n1 c1, .bool p1b, .slice A1b n1b c1b, .slice A1c n1c c1c])), .val (kQ x.real), .val (kQ (y4.sub x.real)), .val (kIs (.agg #[.bool p6, .slice A6 n6 c6, .bool p6b, .slice A6b n6b c6b, .slice A6c n6c c6c])), .val (kQ ((y4.sub x.real).mul .half)), .val (kQB y8 ok8), .val (kQB y8 ok8), .val (kQ y8), .val (kIs (.bool ok8)), .box 34 zQ, .put 10 8, .val (kIs (.bool ok8))]
          (by kernel_rfl) (by kernel_rfl) (by kernel_rfl) (by kernel_rfl) (by kernel_rfl) ⟨stab_is _, stab_is _, stab_q _, stab_q _, stab_is _, stab_q _, stab_qb _ _, stab_qb _ _, stab_q _, stab_is _, stab_is _, trivial⟩ (by simp) ⟨?_, ?_, ?_, ?_, ?_, ?_, ?_, ?_, ?_, ?_, alloc_q, store_q _, ?_, trivial⟩ ?_
        · intro ts W hb hB hp; intro K hK; simp only [fillT, Nat.zero_add, Nat.reduceAdd, sA, sB, sC] at hK ⊢; have HK := hid hK; clear hK hp; obtain ⟨f0, f1, f2, f3, f4, -, -, -, -, -⟩ := bx5 ((hb.block _ z4).trans X4); refine ⟨?_⟩; go_simp; exact HK.out _ _ rfl rfB
        · intro ts W hb hB hp; intro K hK; simp only [fillT, Nat.zero_add, Nat.reduceAdd, sA, sB, sC] at hK ⊢; have HK := hid hK; clear hK hp; obtain ⟨f0, f1, f2, f3, f4, -, -, -, -, -⟩ := bx5 ((hb.block _ z0).trans X0); refine ⟨?_⟩; go_simp; exact HK.out _ _ rfl rfB
        · intro ts W hb hB hp; have h1 : ts 1 = _ := hp 1 (by kernel_rfl); intro K hK; simp only [fillT, Nat.zero_add, Nat.reduceAdd, sA, sB, sC, h1] at hK ⊢; have HK := hid hK; clear hK hp; refine ⟨?_⟩; go_simp; refine (HRE.out W (below_trans B1 hb)).mono ?_; rintro e W9 ⟨r9, rfl, hr9, hb9⟩; exact HK.out _ _ hr9 hb9
        · intro ts W hb hB hp; have h0 : ts 0 = _ := hp 0 (by kernel_rfl); have h2 := hp 2 (by kernel_rfl); intro K hK; simp only [fillT, Nat.zero_add, Nat.reduceAdd, sA, sB, sC, h0] at hK ⊢; have HK := hid hK; clear hK hp; refine ⟨?_⟩; go_simp; refine (HMI.out W _ _ (IsQ.below N4 hb) h2).mono ?_; rintro e W9 ⟨r9, rfl, hr9, hb9⟩; exact HK.out _ _ hr9 hb9
        · intro ts W hb hB hp; intro K hK; simp only [fillT, Nat.zero_add, Nat.reduceAdd, sA, sB, sC] at hK ⊢; have HK := hid hK; clear hK hp; obtain ⟨f0, f1, f2, f3, f4, -, -, -, -, -⟩ := bx5 ((hb.block _ z6).trans X6); refine ⟨?_⟩; go_simp; exact HK.out _ _ rfl rfB
        · intro ts W hb hB hp; have h3 := hp 3 (by kernel_rfl); have h4 : ts 4 = _ := hp 4 (by kernel_rfl); intro K hK; simp only [fillT, Nat.zero_add, Nat.reduceAdd, sA, sB, sC, h4] at hK ⊢; have HK := hid hK; clear hK hp; refine ⟨?_⟩; go_simp; refine (HMB.out W _ _ h3 (IsQ.below N6 hb)).mono ?_; rintro e W9 ⟨r9, rfl, hr9, hb9⟩; exact HK.out _ _ hr9 hb9
        · intro ts W hb hB hp; have h5 := hp 5 (by kernel_rfl); intro K hK; simp only [fillT, Nat.zero_add, Nat.reduceAdd, sA, sB, sC] at hK ⊢; have HK := hid hK; clear hK hp; refine ⟨?_⟩; go_simp; refine (HR8.out _ W h5).mono ?_; rintro e W9 ⟨r9, rfl, hr9, hb9⟩; exact HK.out _ _ ⟨_, rfl, hr9⟩ hb9
        · intro ts W hb hB hp; have h6 := hp 6 (by kernel_rfl); intro K hK; simp only [fillT, Nat.zero_add, Nat.reduceAdd, sA, sB, sC] at hK ⊢; have HK := hid hK; clear hK hp; refine ⟨?_⟩; go_simp; exact HK.out _ _ h6 rfB
        · intro ts W hb hB hp; have h7 := hp 7 (by kernel_rfl); intro K hK; simp only [fillT, Nat.zero_add, Nat.reduceAdd, sA, sB, sC] at hK ⊢; have HK := hid hK; clear hK hp; obtain ⟨u0, e0, k0⟩ := h7; simp only [e0] at HK ⊢; refine ⟨?_⟩; go_simp; exact HK.out _ _ k0 rfB
        · intro ts W hb hB hp; have h7 := hp 7 (by kernel_rfl); intro K hK; simp only [fillT, Nat.zero_add, Nat.reduceAdd, sA, sB, sC] at hK ⊢; have HK := hid hK; clear hK hp; obtain ⟨u0, e0, k0⟩ := h7; simp only [e0] at HK ⊢; refine ⟨?_⟩; go_simp; exact HK.out _ _ rfl rfB
        · intro ts W hb hB hp; have h9 : ts 9 = _ := hp 9 (by kernel_rfl); intro K hK; simp only [fillT, Nat.zero_add, Nat.reduceAdd, sA, sB, sC, h9] at hK ⊢; have HK := hid hK; clear hK hp; refine ⟨?_⟩; go_simp; exact HK.out _ _ rfl rfB
        intro ts W10 hb2 hh hap
        obtain ⟨g8, A8, n8, c8, p8, A8b, n8b, c8b, p8b, A8c, n8c, c8c, e8, lo8, z8, X8, N8⟩ := held_boxQ (x := y8) (hh 10 (by simp)) rfl (hh 11 (by simp)) rfl (hh 8 (by simp)) rfl
        have ea8 := held_is (hh 12 (by simp)) rfl
        simp only [fillT, Nat.zero_add, Nat.reduceAdd, sA, sB, sC, e8, ea8]
        clear hh hap e8 ea8
        have ln8 : w.heap.size + 1 < g8 := Nat.lt_of_lt_of_le z1 lo8
        generalize ts 0 = v0_W10 at *
        generalize ts 1 = v1_W10 at *
        generalize ts 2 = v2_W10 at *
        generalize ts 3 = v3_W10 at *
        generalize ts 4 = v4_W10 at *
        generalize ts 5 = v5_W10 at *
        generalize ts 6 = v6_W10 at *
        generalize ts 7 = v7_W10 at *
        generalize ts 8 = v8_W10 at *
        generalize ts 9 = v9_W10 at *
        clear ts
        have ln87 : g7 < g8 := Nat.lt_of_lt_of_le z7 lo8
        replace X0 := (hb2.block _ z0).trans X0
        replace z0 := Nat.lt_of_lt_of_le z0 hb2.size
        replace X1 := (hb2.block _ z1).trans X1
        replace z1 := Nat.lt_of_lt_of_le z1 hb2.size
        replace X4 := (hb2.block _ z4).trans X4
        replace z4 := Nat.lt_of_lt_of_le z4 hb2.size
        replace X6 := (hb2.block _ z6).trans X6
        replace z6 := Nat.lt_of_lt_of_le z6 hb2.size
        replace X7 := (hb2.block _ z7).trans X7
        replace z7 := Nat.lt_of_lt_of_le z7 hb2.size
        replace N4 := IsQ.below N4 hb2
        replace N6 := IsQ.below N6 hb2
        replace N7 := IsQ.below N7 hb2
        replace B1 := below_trans B1 hb2
        clear hb2
        rcases h8 with ⟨rfl, hr8, hi8⟩ | ⟨rfl, hn8⟩
        rotate_left
        · have HNN := hid (no_imag HMM.out hn8)
          clear hn8 hx hm
          go_wp2_with fail
          refine (rWhole_any 0 _ (by omega) (by omega)).mono ?_
          rintro e V9 ⟨u9, rfl, hu9, hv9⟩
          replace X1 := (hv9.block _ z1).trans X1
          replace z1 := Nat.lt_of_lt_of_le z1 hv9.size
          replace B1 := below_trans B1 hv9
          clear hv9
          obtain ⟨A9, n9, c9, p9, A9b, n9b, c9b, p9b, A9c, n9c, c9c, qa9, qb9, qd9, rfl, -⟩ := hu9.parts
          have HU9 := hid hu9
          clear hu9
          obtain ⟨t0, t1, t2, t3, t4, ty0, ty1, ty2, ty3, ty4⟩ := bx5 X1
          go_wp2
          have NB : NumBox V9 (w.heap.size + 1) := .nilQ t0 t1 t2 t3 t4
          refine bodyPost_ret (v := .tuple #[.agg #[.bool p9, .slice A9 n9 c9, .bool p9b, .slice A9b n9b c9b, .slice A9c n9c c9c], .bool false]) (by simp [results, Tryz.results38]; exact run_loadQe NB _ _ _ _ _ _) rfl ?_
          exact RetSqQ.box B1 (by omega) NB HU9.out (.inr ⟨rfl, rfl, HNN.out⟩) _ _ _ _ _
        · have HRT8 := hid hr8
          have HI8 := hid hi8
          clear hr8 hi8
          cases p1b
          · have hng : ¬ x.im < 0 := fun c => by have := HSG.out.2 c; cases this
            have HPP := hid (show Pri ⟨y7.re, y8.re⟩ x from by
              have := pri_three HMM.out HRT7.out HRT8.out
              rw [if_neg hng] at this
              exact this)
            have HAD := hid (fun W v u (hv : IsQ W v y7) (hu : IsQ W u (y8.mul .i)) => (rAdd_any v u _ _ W hv hu _ _ HS7.out ((HS8.out).mul sz_i) (by omega)).mono (R' := RetQ W ⟨y7.re, y8.re⟩) fun e w' hh => by
              have e1 : y7.add (y8.mul .i) = ⟨y7.re, y8.re⟩ := by
                apply Cx.ext
                · simp only [Cx.add, Cx.mul, Cx.i, Cx.neg, HI8.out]; grind
                · simp only [Cx.add, Cx.mul, Cx.i, Cx.neg, HI7.out]; grind
              rw [← e1]
              exact hh)
            have HMU := hid (fun W v u (hv : IsQ W v y8) (hu : IsQ W u .i) => rMul_any v u _ _ W hv hu _ _ (HS8.out) sz_i (by omega))
            clear hng HMM HRT7 HRT8 HI4 HI7 HI8 hx hm
            obtain ⟨f0, f1, f2, f3, f4, fy0, fy1, fy2, fy3, fy4⟩ := bx5 X0
            go_upto_region 15 with fail
            clear f0 f1 f2 f3 f4 fy0 fy1 fy2 fy3 fy4
            have M7 : QBlk W10 g7 1 (fun _ => True) (fun _ => y7) := QBlk.one X7 fun _ => N7
            have M8 : QBlk W10 g8 1 (fun _ => True) (fun _ => y8) := QBlk.one X8 fun _ => N8
            have M2 : QBlk W10 (w.heap.size + 1) 1 (fun _ => False) (fun _ => .zero) := QBlk.one X1 fun h => h.elim
            clear X0 X1 X4 X6 X7 X8 N4 N6 N7 N8 z0 z4 z6
            refine region_ret [kQ (y7), kQ (y8), kIs (.agg #[.bool false, .slice none 0 0]), kRI (1), kNat (1), kQ (.i), kQ (y8.mul .i), kQ (⟨y7.re, y8.re⟩), kIs (.bool true), kIs (.bool true)] 8 (w.heap.size + 1) (fun W => Below w.heap.size w W ∧ QBlk W g7 1 (fun _ => True) (fun _ => y7) ∧ QBlk W g8 1 (fun _ => True) (fun _ => y8)) (fun W => QBlk W (w.heap.size + 1) 1 (fun _ => False) (fun _ => .zero)) (fun W => QBlk W (w.heap.size + 1) 1 (fun _ => True) (fun _ => ⟨y7.re, y8.re⟩))
              ?fl15 ?hfl15 (by kernel_rfl) (by kernel_rfl) (by kernel_rfl) (by kernel_rfl) (by kernel_rfl) ⟨stab_q _, stab_q _, stab_is _, stab_riv _, stab_nat _, stab_q _, stab_q _, stab_q _, stab_is _, stab_is _, trivial⟩ (fun W W' hb h => ⟨h.1.trans (hb.mono h.1.size), h.2.1.below hb, h.2.2.below hb⟩) (fun W W' hb he h => ⟨hb.below h.1 (by omega), h.2.1.but hb he (by omega), h.2.2.but hb he (by omega)⟩) (fun W W' hb h => h.below hb) (fun W W' hb h => h.below hb) ⟨B1, M7, M8⟩ M2 ⟨?_, ?_, ?_, ?_, ?_, ?_, ?_, ?_, ?_, ?_, trivial⟩ ?_
            case hfl15 => intro ts; simp only [fillT, Nat.zero_add, Nat.reduceAdd, sA, sB, sC]; rfl
            · refine free_val (by decide) ?_; intro ts W hI hp K hK; exact ⟨wp_load_qe (k := 0) rfl rfl (hI.2.1) (by omega) trivial fun v hv => hK v W hv rfB⟩
            · refine free_val (by decide) ?_; intro ts W hI hp K hK; exact ⟨wp_load_qe (k := 0) rfl rfl (hI.2.2) (by omega) trivial fun v hv => hK v W hv rfB⟩
            · refine free_val (by decide) ?_; intro ts W hI hp K hK; dsimp only at hK ⊢; have HK := hid hK; clear hK hp; refine ⟨?_⟩; go_simp; exact HK.out _ _ rfl rfB
            · refine free_val (by decide) ?_; intro ts W hI hp K hK; dsimp only at hK ⊢; have HK := hid hK; clear hK hp; refine ⟨?_⟩; go_simp; refine (rIntOf_any 1 W (by omega) (by omega)).mono ?_; rintro e W9 ⟨r9, rfl, hr9, hb9⟩; exact HK.out _ _ hr9 hb9
            · refine free_val (by decide) ?_; intro ts W hI hp K hK; dsimp only at hK ⊢; have HK := hid hK; clear hK hp; refine ⟨?_⟩; exact wp_buildSlice rfl (by simp [Act.eval]) (one_runV W) (HK.out _ _ (one_nat W) (below_alloc _ _))
            · refine free_val (by decide) ?_; intro ts W hI hp K hK; have h2 : ts 2 = .agg #[.bool false, .slice none 0 0] := hp 2 (by kernel_rfl); have h3 : IsRI W (ts 3) (1) := hp 3 (by kernel_rfl); have h4 : IsNat W (ts 4) (1) := hp 4 (by kernel_rfl); simp only [h2] at hK ⊢; have HK := hid hK; clear hK hp; obtain ⟨A7, n7, c7, e7, -, k7⟩ := h3.parts; obtain ⟨A8, n8, c8, e8, -⟩ := h4.ex; simp only [e7, e8] at HK ⊢; rw [e8] at h4; refine ⟨?_⟩; go_simp; exact HK.out _ _ (IsQ.mk low_i (IsRI.zero _ _ _) ⟨_, rfl, k7⟩ h4) rfB
            · refine free_val (by decide) ?_; intro ts W hI hp K hK; have h1 : IsQ W (ts 1) (y8) := hp 1 (by kernel_rfl); have h5 : IsQ W (ts 5) (.i) := hp 5 (by kernel_rfl); dsimp only at hK ⊢; have HK := hid hK; clear hK hp; refine ⟨?_⟩; go_simp; refine (HMU.out W _ _ h1 h5).mono ?_; rintro e W9 ⟨r9, rfl, hr9, hb9⟩; exact HK.out _ _ hr9 hb9
            · refine free_val (by decide) ?_; intro ts W hI hp K hK; have h0 : IsQ W (ts 0) (y7) := hp 0 (by kernel_rfl); have h6 : IsQ W (ts 6) (y8.mul .i) := hp 6 (by kernel_rfl); dsimp only at hK ⊢; have HK := hid hK; clear hK hp; refine ⟨?_⟩; go_simp; refine (HAD.out W _ _ h0 h6).mono ?_; rintro e W9 ⟨r9, rfl, hr9, hb9⟩; exact HK.out _ _ hr9 hb9
            · refine free_put ?_; intro ts W hI hE hp K hK; have h7 : IsQ W (ts 7) (⟨y7.re, y8.re⟩) := hp 7 (by kernel_rfl); exact ⟨wp_store_qe (k := 0) rfl rfl rfl hE (by omega) h7 fun wa ba xa ra => hK undef wa (QBlk.to ra fun j hj _ => ⟨.inr (by omega), upf_one _ _ j hj⟩) ba xa⟩
            · refine free_val (by decide) ?_; intro ts W hI hp K hK; dsimp only at hK ⊢; have HK := hid hK; clear hK hp; refine ⟨?_⟩; go_simp; exact HK.out _ _ rfl rfB
            intro ts W6 hI6 hp6
            have hm5 : QBlk W6 (w.heap.size + 1) 1 (fun _ => True) (fun _ => ⟨y7.re, y8.re⟩) := hp6 8 (by simp)
            have e7 : ts 9 = .bool true := hp6 9 (by simp)
            dsimp only
            obtain ⟨v5, hv5, hn5⟩ := qblk_load hm5 (k := 0) (by omega) trivial
            have HR := hid (show RetSq IsQ w x (.returned (.tuple #[v5, .bool true])) W6 from ⟨v5, _, ⟨y7.re, y8.re⟩, rfl, hn5, hI6.1, .inl ⟨rfl, HPP.out⟩⟩)
            rw [e7]
            clear hp6 hm5 hI6 hn5 e7
            generalize ts = us at *
            rw [Nat.mul_zero] at hv5
            have hasA : ∀ (a : Addr) (W : World), (asAddr (.pointer (some a))).run Tryz.prog W = .ok a W := fun _ _ => rfl
            go_wp2
            refine bodyPost_ret (v := .tuple #[v5, .bool true]) (by simp [results, Tryz.results38, hv5, hasA]) rfl ?_
            exact HR.out
          · have hng : x.im < 0 := HSG.out.1 rfl
            have HPP := hid (show Pri ⟨y7.re, -y8.re⟩ x from by
              have := pri_three HMM.out HRT7.out HRT8.out
              rw [if_pos hng] at this
              exact this)
            have HAD := hid (fun W v u (hv : IsQ W v y7) (hu : IsQ W u (y8.neg.mul .i)) => (rAdd_any v u _ _ W hv hu _ _ HS7.out ((HS8.out.neg).mul sz_i) (by omega)).mono (R' := RetQ W ⟨y7.re, -y8.re⟩) fun e w' hh => by
              have e1 : y7.add (y8.neg.mul .i) = ⟨y7.re, -y8.re⟩ := by
                apply Cx.ext
                · simp only [Cx.add, Cx.mul, Cx.i, Cx.neg, HI8.out]; grind
                · simp only [Cx.add, Cx.mul, Cx.i, Cx.neg, HI7.out]; grind
              rw [← e1]
              exact hh)
            have HMU := hid (fun W v u (hv : IsQ W v y8.neg) (hu : IsQ W u .i) => rMul_any v u _ _ W hv hu _ _ (HS8.out.neg) sz_i (by omega))
            clear hng HMM HRT7 HRT8 HI4 HI7 HI8 hx hm
            obtain ⟨f0, f1, f2, f3, f4, fy0, fy1, fy2, fy3, fy4⟩ := bx5 X0
            obtain ⟨s0, s1, s2, s3, s4, sy0, sy1, sy2, sy3, sy4⟩ := bx5 X8
            go_wp2_with fail
            refine (rNeg_any _ y8 _ N8).mono ?_
            rintro e W11 ⟨u11, rfl, hu11, hb11⟩
            clear f0 f1 f2 f3 f4 fy0 fy1 fy2 fy3 fy4
            clear s0 s1 s2 s3 s4 sy0 sy1 sy2 sy3 sy4
            replace X0 := (hb11.block _ z0).trans X0
            replace z0 := Nat.lt_of_lt_of_le z0 hb11.size
            replace X1 := (hb11.block _ z1).trans X1
            replace z1 := Nat.lt_of_lt_of_le z1 hb11.size
            replace X4 := (hb11.block _ z4).trans X4
            replace z4 := Nat.lt_of_lt_of_le z4 hb11.size
            replace X6 := (hb11.block _ z6).trans X6
            replace z6 := Nat.lt_of_lt_of_le z6 hb11.size
            replace X7 := (hb11.block _ z7).trans X7
            replace z7 := Nat.lt_of_lt_of_le z7 hb11.size
            replace X8 := (hb11.block _ z8).trans X8
            replace z8 := Nat.lt_of_lt_of_le z8 hb11.size
            replace N7 := IsQ.below N7 hb11
            replace N8 := IsQ.below N8 hb11
            replace B1 := below_trans B1 hb11
            clear hb11
            obtain ⟨A9, n9, c9, p9, A9b, n9b, c9b, p9b, A9c, n9c, c9c, sa, sb, sd, rfl, -⟩ := hu11.parts
            have HNG := hid hu11
            clear hu11
            obtain ⟨s0, s1, s2, s3, s4, sy0, sy1, sy2, sy3, sy4⟩ := bx5 X8
            go_upto_region 15 with fail
            clear s0 s1 s2 s3 s4 sy0 sy1 sy2 sy3 sy4
            obtain ⟨W12, hW12, k1, k2, k3⟩ := set5_but (v0 := .bool p9) (v1 := .slice A9 n9 c9) (v2 := .bool p9b) (v3 := .slice A9b n9b c9b) (v4 := .slice A9c n9c c9c) X8 (by simp [oddB])
            rw [← hW12]
            have M7 : QBlk W12 g7 1 (fun _ => True) (fun _ => y7) := QBlk.but (QBlk.one X7 fun _ => N7) k1 k2 (by omega)
            have M8 : QBlk W12 g8 1 (fun _ => True) (fun _ => y8.neg) := QBlk.one k3 fun _ => IsQ.ext HNG.out k2
            have M2 : QBlk W12 (w.heap.size + 1) 1 (fun _ => False) (fun _ => .zero) := QBlk.but (QBlk.one X1 fun h => h.elim) k1 k2 (by omega)
            replace B1 := k1.below B1 (by omega)
            clear hW12 k1 k2 k3 X0 X1 X4 X6 X7 X8 N4 N6 N7 N8 z0 z4 z6
            refine region_ret [kQ (y7), kQ (y8.neg), kIs (.agg #[.bool false, .slice none 0 0]), kRI (1), kNat (1), kQ (.i), kQ (y8.neg.mul .i), kQ (⟨y7.re, -y8.re⟩), kIs (.bool true), kIs (.bool true)] 8 (w.heap.size + 1) (fun W => Below w.heap.size w W ∧ QBlk W g7 1 (fun _ => True) (fun _ => y7) ∧ QBlk W g8 1 (fun _ => True) (fun _ => y8.neg)) (fun W => QBlk W (w.heap.size + 1) 1 (fun _ => False) (fun _ => .zero)) (fun W => QBlk W (w.heap.size + 1) 1 (fun _ => True) (fun _ => ⟨y7.re, -y8.re⟩))
              ?fl16 ?hfl16 (by kernel_rfl) (by kernel_rfl) (by kernel_rfl) (by kernel_rfl) (by kernel_rfl) ⟨stab_q _, stab_q _, stab_is _, stab_riv _, stab_nat _, stab_q _, stab_q _, stab_q _, stab_is _, stab_is _, trivial⟩ (fun W W' hb h => ⟨h.1.trans (hb.mono h.1.size), h.2.1.below hb, h.2.2.below hb⟩) (fun W W' hb he h => ⟨hb.below h.1 (by omega), h.2.1.but hb he (by omega), h.2.2.but hb he (by omega)⟩) (fun W W' hb h => h.below hb) (fun W W' hb h => h.below hb) ⟨B1, M7, M8⟩ M2 ⟨?_, ?_, ?_, ?_, ?_, ?_, ?_, ?_, ?_, ?_, trivial⟩ ?_
            case hfl16 => intro ts; simp only [fillT, Nat.zero_add, Nat.reduceAdd, sA, sB, sC]; rfl
            · refine free_val (by decide) ?_; intro ts W hI hp K hK; exact ⟨wp_load_qe (k := 0) rfl rfl (hI.2.1) (by omega) trivial fun v hv => hK v W hv rfB⟩
            · refine free_val (by decide) ?_; intro ts W hI hp K hK; exact ⟨wp_load_qe (k := 0) rfl rfl (hI.2.2) (by omega) trivial fun v hv => hK v W hv rfB⟩
            · refine free_val (by decide) ?_; intro ts W hI hp K hK; dsimp only at hK ⊢; have HK := hid hK; clear hK hp; refine ⟨?_⟩; go_simp; exact HK.out _ _ rfl rfB
            · refine free_val (by decide) ?_; intro ts W hI hp K hK; dsimp only at hK ⊢; have HK := hid hK; clear hK hp; refine ⟨?_⟩; go_simp; refine (rIntOf_any 1 W (by omega) (by omega)).mono ?_; rintro e W9 ⟨r9, rfl, hr9, hb9⟩; exact HK.out _ _ hr9 hb9
            · refine free_val (by decide) ?_; intro ts W hI hp K hK; dsimp only at hK ⊢; have HK := hid hK; clear hK hp; refine ⟨?_⟩; exact wp_buildSlice rfl (by simp [Act.eval]) (one_runV W) (HK.out _ _ (one_nat W) (below_alloc _ _))
            · refine free_val (by decide) ?_; intro ts W hI hp K hK; have h2 : ts 2 = .agg #[.bool false, .slice none 0 0] := hp 2 (by kernel_rfl); have h3 : IsRI W (ts 3) (1) := hp 3 (by kernel_rfl); have h4 : IsNat W (ts 4) (1) := hp 4 (by kernel_rfl); simp only [h2] at hK ⊢; have HK := hid hK; clear hK hp; obtain ⟨A7, n7, c7, e7, -, k7⟩ := h3.parts; obtain ⟨A8, n8, c8, e8, -⟩ := h4.ex; simp only [e7, e8] at HK ⊢; rw [e8] at h4; refine ⟨?_⟩; go_simp; exact HK.out _ _ (IsQ.mk low_i (IsRI.zero _ _ _) ⟨_, rfl, k7⟩ h4) rfB
            · refine free_val (by decide) ?_; intro ts W hI hp K hK; have h1 : IsQ W (ts 1) (y8.neg) := hp 1 (by kernel_rfl); have h5 : IsQ W (ts 5) (.i) := hp 5 (by kernel_rfl); dsimp only at hK ⊢; have HK := hid hK; clear hK hp; refine ⟨?_⟩; go_simp; refine (HMU.out W _ _ h1 h5).mono ?_; rintro e W9 ⟨r9, rfl, hr9, hb9⟩; exact HK.out _ _ hr9 hb9
            · refine free_val (by decide) ?_; intro ts W hI hp K hK; have h0 : IsQ W (ts 0) (y7) := hp 0 (by kernel_rfl); have h6 : IsQ W (ts 6) (y8.neg.mul .i) := hp 6 (by kernel_rfl); dsimp only at hK ⊢; have HK := hid hK; clear hK hp; refine ⟨?_⟩; go_simp; refine (HAD.out W _ _ h0 h6).mono ?_; rintro e W9 ⟨r9, rfl, hr9, hb9⟩; exact HK.out _ _ hr9 hb9
            · refine free_put ?_; intro ts W hI hE hp K hK; have h7 : IsQ W (ts 7) (⟨y7.re, -y8.re⟩) := hp 7 (by kernel_rfl); exact ⟨wp_store_qe (k := 0) rfl rfl rfl hE (by omega) h7 fun wa ba xa ra => hK undef wa (QBlk.to ra fun j hj _ => ⟨.inr (by omega), upf_one _ _ j hj⟩) ba xa⟩
            · refine free_val (by decide) ?_; intro ts W hI hp K hK; dsimp only at hK ⊢; have HK := hid hK; clear hK hp; refine ⟨?_⟩; go_simp; exact HK.out _ _ rfl rfB
            intro ts W6 hI6 hp6
            have hm5 : QBlk W6 (w.heap.size + 1) 1 (fun _ => True) (fun _ => ⟨y7.re, -y8.re⟩) := hp6 8 (by simp)
            have e7 : ts 9 = .bool true := hp6 9 (by simp)
            dsimp only
            obtain ⟨v5, hv5, hn5⟩ := qblk_load hm5 (k := 0) (by omega) trivial
            have HR := hid (show RetSq IsQ w x (.returned (.tuple #[v5, .bool true])) W6 from ⟨v5, _, ⟨y7.re, -y8.re⟩, rfl, hn5, hI6.1, .inl ⟨rfl, HPP.out⟩⟩)
            rw [e7]
            clear hp6 hm5 hI6 hn5 e7
            generalize ts = us at *
            rw [Nat.mul_zero] at hv5
            have hasA : ∀ (a : Addr) (W : World), (asAddr (.pointer (some a))).run Tryz.prog W = .ok a W := fun _ _ => rfl
            go_wp2
            refine bodyPost_ret (v := .tuple #[v5, .bool true]) (by simp [results, Tryz.results38, hv5, hasA]) rfl ?_
            exact HR.out
end Go.Proofs.YtccldiokpgjocaaGreatDoor
