import Derived.Deep.LoopGhost
import Derived.Test.YtccldiokpgjocaaGreatDoorR14
import Derived.Test.YtccldiokpgjocaaGreatDoorR27
set_option linter.unusedSimpArgs false
set_option linter.unusedVariables false
namespace Go.Proofs.YtccldiokpgjocaaGreatDoor
open Go.RowKit
set_option maxRecDepth 100000
theorem rNatDiv_any (v u : Value) (x y : Nat) (w : World) (hv : IsNat w v x) (hu : IsNat w u y) (hy : 0 < y) (hn : wl x < 549755813888) (hm : wl y < 549755813888) :
    Calls Tryz.prog 128 #[v, u] w (RetTwo w (x / y) (x % y)) := by
  by_cases hlt : x < y
  · have hc := rNatCmp_any v u x y w hv hu (by omega) (by omega)
    rw [show cmpN x y = -1 by simp [cmpN, hlt]] at hc
    have HC := hid hc
    have HV := hid hv
    rw [Nat.div_eq_of_lt hlt, Nat.mod_eq_of_lt hlt]
    clear hc hv hu
    go_enter Tryz.func128, Tryz.ntmps128
    go_wp2_with fail
    refine HC.out.mono ?_
    rintro e w1 ⟨rfl, q, rfl⟩
    go_wp2
    go_ret2
    exact ⟨_, v, rfl, IsNat.zero _ _ _, HV.out.drewN q, below_drewN _ _⟩
  by_cases hl1 : wl y = 1
  · have hc0 : decide (cmpN x y < 0) = false := by
      unfold cmpN
      rw [if_neg hlt]
      split <;> rfl
    have HC := hid (rNatCmp_any v u x y w hv hu (by omega) (by omega))
    generalize cmpN x y = cm at *
    have hvy := vs_dg_wl y
    rw [hl1, vs_one] at hvy
    have hyd : y < 4294967296 := by rw [← hvy]; exact dg_lt _ _
    have HD := hid (fun W (h : Below w.heap.size w W) => natDigit_any v x y W (hv.below h) hy hyd (by omega))
    obtain ⟨A', c', rfl, hc', hw'⟩ := hu
    obtain ⟨b', o', rfl, hb', hcell'⟩ := hw' (by omega)
    have hcy := hcell' 0 (by omega)
    rw [hvy, Nat.add_zero] at hcy
    have hr : x % y < 4294967296 := by have := Nat.mod_lt x hy; omega
    rw [hl1] at *
    clear hv hw' hcell' hvy hl1 hlt
    generalize hq : x / y = dq at *
    generalize hr2 : x % y = dr at *
    clear hq hr2
    go_enter Tryz.func128, Tryz.ntmps128
    go_wp2_with fail
    refine HC.out.mono ?_
    rintro e w1 ⟨rfl, q, rfl⟩
    have hcy2 : (w.drewN q).cell? ⟨b', o', none⟩ = some (.int .u32 (y : Int)) := hcy
    go_wp2_with fail
    refine (HD.out _ (below_drewN _ _)).mono ?_
    rintro e w2 ⟨v2, rfl, hv2, hb2⟩
    go_wp2_with fail
    refine (rNatOf_any dr w2 (by omega)).mono ?_
    rintro e w3 ⟨v3, rfl, hv3, hb3⟩
    go_wp2
    go_ret2
    exact ⟨v2, v3, rfl, hv2.below hb3, hv3, below_trans (below_trans (below_drewN _ _) hb2) hb3⟩
  · exact rNatDiv_long v u x y w hv hu (by have h0 : wl y ≠ 0 := fun e => by { have := wl_eq_zero.1 e; omega }; omega) (by omega) hn
theorem rNatGcd_any (v u : Value) (x y : Nat) (w : World) (hv : IsNat w v x) (hu : IsNat w u y) (hn : wl x < 549755813888) (hm : wl y < 549755813888) :
    Calls Tryz.prog 130 #[v, u] w (RetNat w (Nat.gcd x y)) := by
  have HV := hid hv
  have HU := hid hu
  have HN := hid hn
  have HM := hid hm
  clear hv hu hn hm
  go_enter Tryz.func130, Tryz.ntmps130
  go_wp2
  go_loopg [0, 1] y (fun k va vb wr => ∃ p : Nat, IsNat wr va p ∧ IsNat wr vb k ∧ Nat.gcd p k = Nat.gcd x y ∧ wl p < 549755813888 ∧ wl k < 549755813888 ∧ Below w.heap.size w wr)
  case atStart => exact ⟨x, HV.out, HU.out, rfl, HN.out, HM.out, Below.refl _ _⟩
  case round =>
    obtain ⟨p, hp, hk, hg, hn, hm, hb⟩ := hrel
    have HG := hid hg
    have HB := hid hb
    have HP := hid hp
    clear hg hb
    rcases Nat.eq_zero_or_pos gk with h0 | h0
    · subst h0
      obtain ⟨A, c, rfl, hc, hw⟩ := hk
      rw [wl_zero] at *
      go_wp2
      go_ret
      exact ⟨_, rfl, by have := HG.out; rw [Nat.gcd_zero_right] at this; rw [← this]; exact HP.out, HB.out⟩
    · have HD := hid (rNatDiv_any _ _ p gk wr hp hk h0 hn hm)
      have HK := hid hk
      have hwk : 0 < wl gk := Nat.pos_of_ne_zero fun e => by { have := wl_eq_zero.1 e; omega }
      have hlk : wl (p % gk) < 549755813888 := Nat.lt_of_le_of_lt (wl_mono (Nat.le_of_lt (Nat.mod_lt p h0))) hm
      have HLK := hid hlk
      have HM := hid hm
      have hlt := Nat.mod_lt p h0
      have HLT := hid hlt
      obtain ⟨A, c, rfl, hc, hw⟩ := hk
      clear hp hn hlk hlt hw hc
      generalize hwl : wl gk = m at *
      have HWL := hid hwl
      clear hwl
      go_wp2_with fail
      refine HD.out.mono ?_
      rintro e w1 ⟨vq, vr, rfl, hq, hr, hb1⟩
      have HQ := hid hr
      have HB1 := hid hb1
      clear hq hr hb1
      go_wp2
      go_roundg (p % gk)
      case measure => exact HLT.out
      case rel => exact ⟨gk, HK.out.below HB1.out, HQ.out, by rw [← HG.out, Nat.gcd_comm p gk, Nat.gcd_rec gk p, Nat.gcd_comm], by rw [HWL.out]; exact HM.out, HLK.out, below_trans HB.out HB1.out⟩
def IsRI (w : World) (v : Value) (z : Int) : Prop := ∃ s, v = .agg #[.bool (decide (z < 0)), s] ∧ IsNat w s z.natAbs
theorem IsRI.below {w w' : World} {v : Value} {z : Int} (h : IsRI w v z) (hb : Below w.heap.size w w') : IsRI w' v z := by
  obtain ⟨s, h1, h2⟩ := h
  exact ⟨s, h1, h2.below hb⟩
theorem IsRI.box2 {w : World} {v : Value} {z : Int} {g : Nat} (h : IsRI w v z) (hB : IntBox w g) (u0 u1 : Value) : IsRI ((w.setCell ⟨g, 0, none⟩ u0).setCell ⟨g, 1, none⟩ u1) v z := by
  obtain ⟨s, h1, h2⟩ := h
  exact ⟨s, h1, h2.box2 hB _ _⟩
theorem IsRI.parts {w : World} {v : Value} {z : Int} (h : IsRI w v z) : ∃ A n c, v = .agg #[.bool (decide (z < 0)), .slice A n c] ∧ n = wl z.natAbs ∧ IsNat w (.slice A n c) z.natAbs := by
  obtain ⟨s, rfl, h⟩ := h
  obtain ⟨A, n, c, rfl, hn⟩ := h.ex
  exact ⟨A, n, c, rfl, hn, h⟩
def RetRI (w : World) (z : Int) (e : Ending) (w' : World) : Prop := ∃ v, e = .returned v ∧ IsRI w' v z ∧ Below w.heap.size w w'
theorem run_loadRI {w : World} {g : Nat} (h : IntBox w g) (v0 v1 : Value) :
    ((Sem.run Tryz.prog (asAddr (Value.pointer (some { block := g, off := 0 }))) ((w.setCell ⟨g, 0, none⟩ v0).setCell ⟨g, 1, none⟩ v1)).andThen
      fun a w' => Sem.run Tryz.prog (loadVar 32 a) w') =
    Result.ok (Value.agg #[v0, v1]) ((w.setCell ⟨g, 0, none⟩ v0).setCell ⟨g, 1, none⟩ v1) := by
  obtain ⟨o0, o1, h0, h1, -⟩ := h
  simp [go_sem, h0, h1]
theorem RetRI.box {w W : World} {v : Value} {z : Int} {g : Nat} (hb : Below w.heap.size w W) (hg : w.heap.size ≤ g) (hB : IntBox W g) (h : IsRI W v z) (v0 v1 : Value) :
    RetRI w z (.returned v) ((W.setCell ⟨g, 0, none⟩ v0).setCell ⟨g, 1, none⟩ v1) :=
  ⟨v, rfl, h.box2 hB _ _, (hb.setCell hg _).setCell hg _⟩
theorem RetRI.of {w W : World} {v : Value} {z : Int} (hb : Below w.heap.size w W) (hn : Below w.heap.size w W → IsRI W v z) : RetRI w z (.returned v) W := ⟨v, rfl, hn hb, hb⟩
theorem IntBox.mk' {w : World} {g : Nat} {A : Option Addr} {n c : Nat} {p : Bool} (h0 : w.cell? ⟨g, 0, none⟩ = some (.bool p)) (h1 : w.cell? ⟨g, 1, none⟩ = some (.slice A n c)) : IntBox w g :=
  ⟨_, _, h0, h1, Odd.bool _, Odd.slice _ _ _⟩
theorem wrap_neg (k : Nat) (h : k ≤ 9223372036854775808) : IntKind.u64.wrap (wrap64 (k : Int)) = (k : Int) := by
  rw [IntKind.wrap_u64]
  unfold wrap64
  omega
theorem rIntOf_any (z : Int) (w : World) (h1 : -9223372036854775808 ≤ z) (h2 : z < 9223372036854775808) :
    Calls Tryz.prog 95 #[.int .i64 z] w (RetRI w z) := by
  by_cases hz : z < 0
  · obtain ⟨k, hk, rfl⟩ : ∃ k : Nat, 0 < k ∧ z = -(k : Int) := ⟨z.natAbs, by omega, by omega⟩
    have hw := wrap_neg k (by omega)
    have hkk : k < 18446744073709551616 := by omega
    have HF := hid (fun W => rNatOf_any k W hkk)
    go_enter Tryz.func95, Tryz.ntmps95
    go_wp2_with fail
    refine (HF.out _).mono ?_
    rintro e W2 ⟨r, rfl, hr, hb2⟩
    obtain ⟨hc2, hf2, hz2⟩ := bcells hb2 (w.heap.size + 1) (by simp)
    obtain ⟨A, n, c, rfl, hn⟩ := hr.ex
    clear hn
    go_wp2
    have IB : IntBox W2 w.heap.size := IntBox.of hc2 (by omega) (IntBox.mk' (A := none) (n := 0) (c := 0) (p := false) (by simp [go_sem]) (by simp [go_sem]))
    refine bodyPost_ret (v := .agg #[.bool true, .slice A n c]) (by simp [results, Tryz.results95]; exact run_loadRI IB _ _) rfl ?_
    exact RetRI.box (below_trans (below_alloc _ _) hb2) (by omega) IB ⟨_, by rw [decide_eq_true hz], by rw [Int.natAbs_neg, Int.natAbs_natCast]; exact hr⟩ _ _
  · obtain ⟨k, rfl⟩ : ∃ k : Nat, z = (k : Int) := ⟨z.natAbs, by omega⟩
    have hw : IntKind.u64.wrap (k : Int) = (k : Int) := by
      simp [IntKind.wrap, IntKind.bits, IntKind.signed]
      omega
    have hk : k < 18446744073709551616 := by omega
    have HF := hid (fun W => rNatOf_any k W hk)
    go_enter Tryz.func95, Tryz.ntmps95
    go_wp2_with fail
    refine (HF.out _).mono ?_
    rintro e W2 ⟨r, rfl, hr, hb2⟩
    obtain ⟨hc2, hf2, hz2⟩ := bcells hb2 (w.heap.size + 1) (by simp)
    obtain ⟨A, n, c, rfl, hn⟩ := hr.ex
    clear hn
    go_wp2
    have IB : IntBox W2 w.heap.size := IntBox.of hc2 (by omega) (IntBox.mk' (A := none) (n := 0) (c := 0) (p := false) (by simp [go_sem]) (by simp [go_sem]))
    refine bodyPost_ret (v := .agg #[.bool false, .slice A n c]) (by simp [results, Tryz.results95]; exact run_loadRI IB _ _) rfl ?_
    exact RetRI.box (below_trans (below_alloc _ _) hb2) (by omega) IB ⟨_, by rw [show decide ((k : Int) < 0) = false by simp], by rw [Int.natAbs_natCast]; exact hr⟩ _ _
theorem rsigned_any (p : Bool) (v : Value) (x : Nat) (z : Int) (w : World) (h : IsNat w v x) (hx : z.natAbs = x) (hz : (p && decide (0 < x)) = decide (z < 0)) :
    Calls Tryz.prog 70 #[.bool p, v] w (RetRI w z) := by
  have HV := hid h
  obtain ⟨A, n, c, rfl, hn⟩ := h.ex
  have hd : decide (0 < n) = decide (0 < x) := by
    rw [Bool.eq_iff_iff]
    simp
    rw [hn]
    have := wl_eq_zero (x := x)
    omega
  clear hn h
  cases p
  · have hz2 : decide (z < 0) = false := by rw [← hz]; rfl
    have HZ := hid hz2
    have HX := hid hx
    clear hd hz hz2 hx
    go_enter Tryz.func70, Tryz.ntmps70
    go_wp2
    refine bodyPost_ret (v := .agg #[.bool false, .slice A n c]) (by simp [results, Tryz.results70, go_sem]) rfl ?_
    exact RetRI.of bel fun B => ⟨_, by rw [HZ.out], by rw [HX.out]; exact HV.out.below B⟩
  · have hz2 : decide (z < 0) = decide (0 < x) := by rw [← hz]; rfl
    have HZ := hid hz2
    have HX := hid hx
    clear hz hz2 hx
    generalize decide (0 < x) = q at *
    go_enter Tryz.func70, Tryz.ntmps70
    go_wp2
    refine bodyPost_ret (v := .agg #[.bool q, .slice A n c]) (by simp [results, Tryz.results70, go_sem]) rfl ?_
    exact RetRI.of bel fun B => ⟨_, by rw [HZ.out], by rw [HX.out]; exact HV.out.below B⟩
theorem rIntNeg_any (v : Value) (z : Int) (w : World) (h : IsRI w v z) :
    Calls Tryz.prog 138 #[v] w (RetRI w (-z)) := by
  obtain ⟨A, n, c, rfl, hn, hs⟩ := h.parts
  have HS := hid (fun W (hb : Below w.heap.size w W) => rsigned_any (!decide (z < 0)) _ z.natAbs (-z) W (hs.below hb) (by rw [Int.natAbs_neg]) (by
    rw [Bool.eq_iff_iff]
    simp
    omega))
  clear hn hs h
  generalize decide (z < 0) = q at *
  go_enter Tryz.func138, Tryz.ntmps138
  go_wp2_with fail
  refine (HS.out _ bel).mono ?_
  rintro e W2 ⟨r, rfl, hr, hb2⟩
  obtain ⟨hc2, hf2, hz2⟩ := bcells hb2 (w.heap.size + 2) (by simp)
  obtain ⟨A2, n2, c2, rfl, hn2, hs2⟩ := hr.parts
  clear hn2
  generalize decide (-z < 0) = q2 at *
  go_wp2
  have IB : IntBox W2 (w.heap.size + 1) := IntBox.of hc2 (by omega) (IntBox.mk' (A := none) (n := 0) (c := 0) (p := false) (by simp [go_sem]) (by simp [go_sem]))
  refine bodyPost_ret (v := .agg #[.bool q2, .slice A2 n2 c2]) (by simp [results, Tryz.results138]; exact run_loadRI IB _ _) rfl ?_
  exact RetRI.box bel (by omega) IB hr _ _
end Go.Proofs.YtccldiokpgjocaaGreatDoor
