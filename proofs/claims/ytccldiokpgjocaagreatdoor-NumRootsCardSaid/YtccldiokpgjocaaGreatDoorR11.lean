import Derived.Deep.LoopGhost
import Derived.Test.YtccldiokpgjocaaGreatDoorR10
set_option linter.unusedSimpArgs false
set_option linter.unusedVariables false
namespace Go.Proofs.YtccldiokpgjocaaGreatDoor
open Go.RowKit
set_option maxRecDepth 100000
def ShRel (w : World) (B p N g0 k : Nat) (wr : World) : Prop :=
  ∃ n gx gy ga gb ka kb fx fy fa fb X Y, Euc wr B p N n gx gy ga gb ka kb fx fy fa fb ∧ vs fx n = X ∧ vs fy n = Y ∧ wl X = n ∧ Y ≤ X ∧ Nat.gcd X Y = g0 ∧ X + Y ≤ k ∧ Below B w wr
def RetShort (w : World) (B g0 : Nat) (e : Ending) (w' : World) : Prop :=
  ∃ v u X Y, e = .returned (.tuple #[v, u]) ∧ IsNat w' v X ∧ IsNat w' u Y ∧ Nat.gcd X Y = g0 ∧ wl Y ≤ 2 ∧ Y ≤ X ∧ wl X < 549755813888 ∧ Below B w w'
theorem leap_both (w : World) (B p N n gx gy ga gb ka kb u0 v0 u1 v1 X Y kk : Nat) (ev : Bool) (fx fy fa fb : Nat → Nat) (h : Euc w B p N n gx gy ga gb ka kb fx fy fa fb) (hN : N ≤ 549755813888)
    (hX : vs fx n = X) (hY : vs fy n = Y) (hnX : wl X = n) (hkk : 0 < kk) (hg : Good (X / kk) (Y / kk) u0 v0 u1 v1 ev) (hv0 : v0 ≠ 0) :
    Calls Tryz.prog 180 #[.pointer (some ⟨p, 0, none⟩), .agg #[.int .u32 (u0 : Int), .int .u32 (u1 : Int), .int .u32 (v0 : Int), .int .u32 (v1 : Int), .bool ev]] w fun e w' => e = .returned (.tuple #[]) ∧
      ∃ X' Y' fx' fy', Leaps X Y X' Y' ∧ Euc w' B p N (wl X') ga gb gx gy n n fx' fy' fx fy ∧ vs fx' (wl X') = X' ∧ vs fy' (wl X') = Y' ∧ Below B w w' := by
  obtain ⟨l1, l2, l3, l4, hf⟩ := hg
  rcases hf with hf | ⟨a1, a2, q, c, hc, hq, he⟩
  · exact absurd hf hv0
  have hlt : X < 4294967296 ^ n := by rw [← hnX]; exact lt_wl X
  cases ev
  · simp only [Bool.false_eq_true, if_false] at he
    obtain ⟨e1, e2, e3⟩ := he
    obtain ⟨b1, b2, b3⟩ := leap_false hkk hv0 a1 a2 hc hq e1 e2 e3
    exact (leap_any2 w B p N n gx gy ga gb ka kb u0 v0 u1 v1 _ _ fx fy fa fb h hN l1 l2 l3 l4 (by rw [hX, hY]; exact b1) (by rw [hX, hY]; exact b2) (by rw [hX, hY]) (by rw [hX, hY]) b3.1 (by have := b3.2.1; omega)).mono
      fun e w' ⟨h1, fx', fy', h2, h3, h4, h5⟩ => ⟨h1, _, _, fx', fy', b3, h2, h3, h4, h5⟩
  · simp only [if_true] at he
    obtain ⟨e1, e2, e3⟩ := he
    obtain ⟨b1, b2, b3⟩ := leap_true hkk hv0 a2 hc hq e1 e2 e3
    exact (leap_any w B p N n gx gy ga gb ka kb u0 v0 u1 v1 _ _ fx fy fa fb h hN l1 l2 l3 l4 (by rw [hX, hY]; exact b1) (by rw [hX, hY]; exact b2) (by rw [hX, hY]) (by rw [hX, hY]) b3.1 (by have := b3.2.1; omega)).mono
      fun e w' ⟨h1, fx', fy', h2, h3, h4, h5⟩ => ⟨h1, _, _, fx', fy', b3, h2, h3, h4, h5⟩
theorem gcd_step (X Y : Nat) : Nat.gcd Y (X % Y) = Nat.gcd X Y := by
  rw [Nat.gcd_comm Y (X % Y), ← Nat.gcd_rec Y X, Nat.gcd_comm]
theorem shorten_any (w : World) (B p N n gx gy ga gb ka kb X Y : Nat) (fx fy fa fb : Nat → Nat) (h : Euc w B p N n gx gy ga gb ka kb fx fy fa fb) (hN : N < 549755813888)
    (hX : vs fx n = X) (hY : vs fy n = Y) (hnX : wl X = n) (hle : Y ≤ X) :
    Calls Tryz.prog 173 #[.pointer (some ⟨p, 0, none⟩)] w (RetShort w B (Nat.gcd X Y)) := by
  have H0 := hid (show ShRel w B p N (Nat.gcd X Y) (X + Y) w from ⟨n, gx, gy, ga, gb, ka, kb, fx, fy, fa, fb, X, Y, h, hX, hY, hnX, hle, rfl, Nat.le_refl _, Below.refl _ _⟩)
  generalize Nat.gcd X Y = g0 at *
  generalize X + Y = k0 at *
  clear h hX hY hnX hle
  go_enter Tryz.func173, Tryz.ntmps173
  go_wp2_with fail
  go_loopg [] k0 (fun k wr => ShRel w B p N g0 k wr)
  case atStart => exact H0.out
  case round =>
    clear H0
    obtain ⟨n, gx, gy, ga, gb, ka, kb, fx, fy, fa, fb, X, Y, hE, hX, hY, hnX, hle, hg, hk, hb⟩ := hrel
    have HE := hid hE
    have HXX := hid hX
    have HYY := hid hY
    have HNX := hid hnX
    have HG := hid hg
    have HB := hid hb
    have n1 := hE.nN
    have hwy := hE.wy
    have htl : tl fy n = wl Y := by rw [tl_eq hE.wy, hY]
    have hlY : wl Y ≤ n := by rw [← hnX]; exact wl_mono hle
    have HTL := hid htl
    have hxn : IsNat wr (.slice (some ⟨gx, 0, none⟩) n N) X := by
      have h1 := IsNat.mk_tl (c := N) (hE.rx.wn0.mono n1) hE.wx n1
      rw [tl_eq hE.wx, hX, hnX] at h1
      exact h1
    have HXN := hid hxn
    clear hxn
    obtain ⟨⟨m0, m1, _, _⟩, _, mp⟩ := hE.field
    have htrim := trim_at (some ⟨gy, 0, none⟩) n N fy wr (hE.ry.wn0.mono n1) hwy n1 (by omega)
    rw [htl, hY] at htrim
    have HT := hid htrim
    clear hE hX hY hnX hg hb htl htrim
    go_wp2_with fail
    refine HT.out.mono ?_
    rintro e w1 ⟨rfl, hyn, rfl⟩
    have HYN := hid hyn
    clear hyn
    by_cases h2 : wl Y ≤ 2
    · go_wp2
      go_ret2
      exact ⟨_, _, X, Y, rfl, HXN.out, HYN.out, HG.out, h2, hle, by rw [HNX.out]; omega, HB.out⟩
    · have h2' : ¬ ((wl Y : Nat) : Int) ≤ 2 := by omega
      obtain ⟨n3, hn3⟩ : ∃ n3, n = n3 + 3 := ⟨n - 3, by omega⟩
      subst hn3
      have htop : fx (n3 + 2) ≠ 0 := by
        have h1 := top_dg (x := X) (by rw [HNX.out]; omega)
        rw [HNX.out] at h1
        have h3 := dg_vs HE.out.wx (n3 + 2) (by omega)
        rw [HXX.out] at h3
        rw [h3]; exact h1
      have hfo : ∀ W0, Below wr.heap.size wr W0 → Calls Tryz.prog 178 #[.slice (some ⟨gx, 0, none⟩) (n3 + 3) N, .slice (some ⟨gy, 0, none⟩) (n3 + 3) N] W0 fun e W2 => ∃ (kk u0 v0 u1 v1 : Nat) (ev : Bool), e = .returned (.agg #[.int .u32 (u0 : Int), .int .u32 (u1 : Int), .int .u32 (v0 : Int), .int .u32 (v1 : Int), .bool ev]) ∧
          0 < kk ∧ Good (X / kk) (Y / kk) u0 v0 u1 v1 ev ∧ Below wr.heap.size wr W2 ∧ Below W0.heap.size W0 W2 := fun W0 h0 => by
        have hf := foresee_any n3 N N (some ⟨gx, 0, none⟩) (some ⟨gy, 0, none⟩) fx fy W0 ((HE.out.rx.wn0.mono n1).below h0) HE.out.wx ((HE.out.ry.wn0.mono n1).below h0) HE.out.wy htop (by rw [HXX.out, HYY.out]; exact hle) (by omega)
        rw [HXX.out, HYY.out] at hf
        exact hf.mono fun e W2 ⟨kk, u0, v0, u1, v1, ev, h1, h2, h3, h4⟩ => ⟨kk, u0, v0, u1, v1, ev, h1, h2, h3, below_trans h0 h4, h4⟩
      have HFO := hid hfo
      have hkp : ∀ W2, Below wr.heap.size wr W2 → W2.cell? ⟨p, 0, none⟩ = some (.slice (some ⟨gx, 0, none⟩) (n3 + 3) N) ∧ W2.cell? ⟨p, 1, none⟩ = some (.slice (some ⟨gy, 0, none⟩) (n3 + 3) N) := fun W2 hb =>
        ⟨(hb.cell (p := ⟨p, 0, none⟩) mp).trans m0, (hb.cell (p := ⟨p, 1, none⟩) mp).trans m1⟩
      have HKP := hid hkp
      have hbx : ∀ W2, Below ((wr.alloc (.cells #[.int .u32 0, .int .u32 0, .int .u32 0, .int .u32 0, .bool false] 187)).drew).heap.size ((wr.alloc (.cells #[.int .u32 0, .int .u32 0, .int .u32 0, .int .u32 0, .bool false] 187)).drew) W2 →
          (W2.cell? ⟨wr.heap.size, 0, none⟩ = some (.int .u32 0) ∧ W2.cell? ⟨wr.heap.size, 1, none⟩ = some (.int .u32 0) ∧ W2.cell? ⟨wr.heap.size, 2, none⟩ = some (.int .u32 0) ∧ W2.cell? ⟨wr.heap.size, 3, none⟩ = some (.int .u32 0) ∧ W2.cell? ⟨wr.heap.size, 4, none⟩ = some (.bool false)) ∧
          W2.frozen? ⟨wr.heap.size, 0, none⟩ = false ∧ W2.frozen? ⟨wr.heap.size, 1, none⟩ = false ∧ W2.frozen? ⟨wr.heap.size, 2, none⟩ = false ∧ W2.frozen? ⟨wr.heap.size, 3, none⟩ = false ∧ W2.frozen? ⟨wr.heap.size, 4, none⟩ = false := fun W2 hb => by
        have hh := hb.block wr.heap.size (by simp)
        have h2 : W2.heap[wr.heap.size]? = some (.cells #[.int .u32 0, .int .u32 0, .int .u32 0, .int .u32 0, .bool false] 187 (0, 0)) := hh.trans (heap_alloc_new wr _)
        refine ⟨⟨?_, ?_, ?_, ?_, ?_⟩, ?_, ?_, ?_, ?_, ?_⟩
        · rw [cell_of_row W2 _ 0 _ _ (0, 0) h2]; rfl
        · rw [cell_of_row W2 _ 1 _ _ (0, 0) h2]; rfl
        · rw [cell_of_row W2 _ 2 _ _ (0, 0) h2]; rfl
        · rw [cell_of_row W2 _ 3 _ _ (0, 0) h2]; rfl
        · rw [cell_of_row W2 _ 4 _ _ (0, 0) h2]; rfl
        all_goals simp [World.frozen?, h2]
      have HBX := hid hbx
      have hf1 := hfo (wr.alloc (.cells #[.int .u32 0, .int .u32 0, .int .u32 0, .int .u32 0, .bool false] 187)).drew (below_alloc wr _).drew
      have hf2 := hfo wr.drew (Below.refl _ wr).drew
      have HF1 := hid hf1
      have HF2 := hid hf2
      clear hfo hkp hbx htop hf1 hf2 HFO
      have pn1 : ¬ wr.heap.size = p := by omega
      have pn2 : ¬ p = wr.heap.size := by omega
      go_wp2_with fail
      go_region_held3 (fun w' => w'.cell? ⟨p, 0, none⟩ = some (.slice (some ⟨gx, 0, none⟩) (n3 + 3) N) ∧ w'.cell? ⟨p, 1, none⟩ = some (.slice (some ⟨gy, 0, none⟩) (n3 + 3) N)) (go_keep) (first | (go_at_call 178; (with_reducible refine HF1.out.mono ?_); rintro e W2 ⟨kk, u0, v0, u1, v1, ev, rfl, hkk, hgood, hb2, hb3⟩; obtain ⟨k1, k2⟩ := HKP.out _ hb2; obtain ⟨⟨z0, z1, z2, z3, z4⟩, y0, y1, y2, y3, y4⟩ := HBX.out _ hb3) | (go_at_call 178; (with_reducible refine HF2.out.mono ?_); rintro e W2 ⟨kk, u0, v0, u1, v1, ev, rfl, hkk, hgood, hb2, hb3⟩; obtain ⟨k1, k2⟩ := HKP.out _ hb2; have pn3 : ¬ W2.heap.size = p := (fun e => Nat.lt_irrefl p (Nat.lt_of_lt_of_le mp (Nat.le_trans hb2.size (Nat.le_of_eq e)))); have pn4 : ¬ p = W2.heap.size := (fun e => pn3 e.symm)))
      all_goals
        have hYp : 0 < Y := Nat.pos_of_ne_zero (fun e => by rw [e, wl_zero] at h2; omega)
        have HGOOD := hid hgood
        clear hgood
      · generalize hW3 : World.alloc W2 _ = W3
        have hb03 : Below wr.heap.size wr W3 := by rw [← hW3]; exact below_trans hb2 (below_alloc _ _)
        have q0 : W3.cell? ⟨W2.heap.size, 0, none⟩ = some (.int .u32 (u0 : Int)) := by rw [← hW3]; simp
        have q1 : W3.cell? ⟨W2.heap.size, 1, none⟩ = some (.int .u32 (u1 : Int)) := by rw [← hW3]; simp
        have q2 : W3.cell? ⟨W2.heap.size, 2, none⟩ = some (.int .u32 (v0 : Int)) := by rw [← hW3]; simp
        have q3 : W3.cell? ⟨W2.heap.size, 3, none⟩ = some (.int .u32 (v1 : Int)) := by rw [← hW3]; simp
        have q4 : W3.cell? ⟨W2.heap.size, 4, none⟩ = some (.bool ev) := by rw [← hW3]; simp
        have HB03 := hid hb03
        clear hW3 hb03 hb2 hb3 k1 k2 pn3 pn4
        by_cases hv0 : v0 = 0
        · subst hv0
          go_wp2_with fail
          refine (divide_any W3 B p N (n3 + 3) gx gy ga gb ka kb X Y fx fy fa fb (HE.out.below HB03.out) hN HXX.out HYY.out HNX.out hle hYp).mono ?_
          rintro e W4 ⟨rfl, fx', fy', hE4, hx4, hy4, hb4⟩
          have HE4 := hid hE4
          have HX4 := hid hx4
          have HY4 := hid hy4
          have HB4 := hid (HB.out.trans ((HB03.out.mono (Nat.le_of_lt (Nat.lt_of_le_of_lt HE.out.B1 HE.out.rx.lt))).trans hb4))
          have hml : X % Y < Y := Nat.mod_lt _ hYp
          clear hE4 hx4 hy4 hb4
          go_wp2
          go_roundg (Y + X % Y)
          case measure => omega
          case rel => exact ⟨wl Y, gy, gx, ga, gb, ka, kb, fx', fy', fa, fb, Y, X % Y, HE4.out, HX4.out, HY4.out, rfl, Nat.le_of_lt hml, by rw [gcd_step]; exact HG.out, Nat.le_refl _, HB4.out⟩
        · have hvn : ((v0 : Int) == 0) = false := by simp; omega
          go_wp2_with fail
          refine (leap_both W3 B p N (n3 + 3) gx gy ga gb ka kb u0 v0 u1 v1 X Y kk ev fx fy fa fb (HE.out.below HB03.out) (by omega) HXX.out HYY.out HNX.out hkk HGOOD.out hv0).mono ?_
          rintro e W4 ⟨rfl, X', Y', fx', fy', hlp, hE4, hx4, hy4, hb4⟩
          have HE4 := hid hE4
          have HX4 := hid hx4
          have HY4 := hid hy4
          have HLP := hid hlp
          have HB4 := hid (HB.out.trans ((HB03.out.mono (Nat.le_of_lt (Nat.lt_of_le_of_lt HE.out.B1 HE.out.rx.lt))).trans hb4))
          have hml : X' + Y' ≤ X := hlp.2.1
          clear hE4 hx4 hy4 hb4 hlp
          go_wp2
          go_roundg (X' + Y')
          case measure => omega
          case rel => exact ⟨wl X', ga, gb, gx, gy, n3 + 3, n3 + 3, fx', fy', fx, fy, X', Y', HE4.out, HX4.out, HY4.out, rfl, HLP.out.1, by rw [HLP.out.2.2]; exact HG.out, Nat.le_refl _, HB4.out⟩
      · generalize hW3 : World.setCell _ _ _ = W3
        have hb03 : Below wr.heap.size wr W3 := by
          rw [← hW3]
          exact ((((hb2.setCell (Nat.le_refl _) _).setCell (Nat.le_refl _) _).setCell (Nat.le_refl _) _).setCell (Nat.le_refl _) _).setCell (Nat.le_refl _) _
        have hh : W3.heap[wr.heap.size]? = some (.cells #[.int .u32 (u0 : Int), .int .u32 (u1 : Int), .int .u32 (v0 : Int), .int .u32 (v1 : Int), .bool ev] 187 (0, 0)) := by
          have h1 := hb3.block wr.heap.size (by simp)
          have h2 : W2.heap[wr.heap.size]? = some (.cells #[.int .u32 0, .int .u32 0, .int .u32 0, .int .u32 0, .bool false] 187 (0, 0)) := h1.trans (heap_alloc_new wr _)
          rw [← hW3]
          exact heap_set_cells (heap_set_cells (heap_set_cells (heap_set_cells (heap_set_cells h2 _ _) _ _) _ _) _ _) _ _
        have q0 : W3.cell? ⟨wr.heap.size, 0, none⟩ = some (.int .u32 (u0 : Int)) := by rw [cell_of_row W3 _ 0 _ _ (0, 0) hh]; rfl
        have q1 : W3.cell? ⟨wr.heap.size, 1, none⟩ = some (.int .u32 (u1 : Int)) := by rw [cell_of_row W3 _ 1 _ _ (0, 0) hh]; rfl
        have q2 : W3.cell? ⟨wr.heap.size, 2, none⟩ = some (.int .u32 (v0 : Int)) := by rw [cell_of_row W3 _ 2 _ _ (0, 0) hh]; rfl
        have q3 : W3.cell? ⟨wr.heap.size, 3, none⟩ = some (.int .u32 (v1 : Int)) := by rw [cell_of_row W3 _ 3 _ _ (0, 0) hh]; rfl
        have q4 : W3.cell? ⟨wr.heap.size, 4, none⟩ = some (.bool ev) := by rw [cell_of_row W3 _ 4 _ _ (0, 0) hh]; rfl
        have HB03 := hid hb03
        clear hW3 hb03 hb2 hb3 k1 k2 z0 z1 z2 z3 z4 y0 y1 y2 y3 y4 hh
        by_cases hv0 : v0 = 0
        · subst hv0
          go_wp2_with fail
          refine (divide_any W3 B p N (n3 + 3) gx gy ga gb ka kb X Y fx fy fa fb (HE.out.below HB03.out) hN HXX.out HYY.out HNX.out hle hYp).mono ?_
          rintro e W4 ⟨rfl, fx', fy', hE4, hx4, hy4, hb4⟩
          have HE4 := hid hE4
          have HX4 := hid hx4
          have HY4 := hid hy4
          have HB4 := hid (HB.out.trans ((HB03.out.mono (Nat.le_of_lt (Nat.lt_of_le_of_lt HE.out.B1 HE.out.rx.lt))).trans hb4))
          have hml : X % Y < Y := Nat.mod_lt _ hYp
          clear hE4 hx4 hy4 hb4
          go_wp2
          go_roundg (Y + X % Y)
          case measure => omega
          case rel => exact ⟨wl Y, gy, gx, ga, gb, ka, kb, fx', fy', fa, fb, Y, X % Y, HE4.out, HX4.out, HY4.out, rfl, Nat.le_of_lt hml, by rw [gcd_step]; exact HG.out, Nat.le_refl _, HB4.out⟩
        · have hvn : ((v0 : Int) == 0) = false := by simp; omega
          go_wp2_with fail
          refine (leap_both W3 B p N (n3 + 3) gx gy ga gb ka kb u0 v0 u1 v1 X Y kk ev fx fy fa fb (HE.out.below HB03.out) (by omega) HXX.out HYY.out HNX.out hkk HGOOD.out hv0).mono ?_
          rintro e W4 ⟨rfl, X', Y', fx', fy', hlp, hE4, hx4, hy4, hb4⟩
          have HE4 := hid hE4
          have HX4 := hid hx4
          have HY4 := hid hy4
          have HLP := hid hlp
          have HB4 := hid (HB.out.trans ((HB03.out.mono (Nat.le_of_lt (Nat.lt_of_le_of_lt HE.out.B1 HE.out.rx.lt))).trans hb4))
          have hml : X' + Y' ≤ X := hlp.2.1
          clear hE4 hx4 hy4 hb4 hlp
          go_wp2
          go_roundg (X' + Y')
          case measure => omega
          case rel => exact ⟨wl X', ga, gb, gx, gy, n3 + 3, n3 + 3, fx', fy', fx, fy, X', Y', HE4.out, HX4.out, HY4.out, rfl, HLP.out.1, by rw [HLP.out.2.2]; exact HG.out, Nat.le_refl _, HB4.out⟩
end Go.Proofs.YtccldiokpgjocaaGreatDoor
