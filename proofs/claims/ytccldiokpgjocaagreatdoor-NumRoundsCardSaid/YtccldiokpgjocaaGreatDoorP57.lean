import Derived.Test.YtccldiokpgjocaaGreatDoorP31
import Derived.Test.YtccldiokpgjocaaGreatDoorP33
import Derived.Test.YtccldiokpgjocaaGreatDoorP56
set_option linter.unusedSimpArgs false
set_option linter.unusedVariables false
namespace Go.Proofs.YtccldiokpgjocaaGreatDoor
open Go.RowKit
set_option maxRecDepth 100000
def RetSpl (w : World) (dg : Nat) (lo : Int) (p d : Nat) (e : Ending) (w' : World) : Prop := ∃ (r : Value) (m t last : Nat) (more : Bool), e = .returned (.tuple #[r, .int .i64 ((t : Int) + lo), .int .u32 (last : Int), .bool more]) ∧ IsNat w' r m ∧ Spl dg lo p d m t ∧ last < 2 ∧
  decide (last = 1) = decide (2 ^ t * d ≤ 2 * splR lo p d m t) ∧ more = decide (2 * splR lo p d m t ≠ (if last = 1 then 2 ^ t * d else 0)) ∧ t < 68719476736 ∧ Below w.heap.size w w'
def SpRel (w : World) (dg : Nat) (lo : Int) (p d M QB : Nat) (v9 v10 v11 v13 : Value) (wr : World) : Prop := ∃ (q E last : Nat) (more : Bool), v9 = .int .i64 ((E : Int) + lo - 1) ∧ v10 = .int .u32 (last : Int) ∧ v11 = .bool more ∧ IsNat wr v13 q ∧ Spst lo p d q E last more ∧ (E = 1 ∨ 2 ^ (dg - 1) ≤ q) ∧ E + bl q ≤ M ∧ q ≤ QB ∧ Below w.heap.size w wr
theorem bl_half2 {q : Nat} (h : 0 < q) : bl (q / 2) + 1 = bl q ∨ q = 0 := by
  left
  obtain ⟨b0, b1, b2⟩ := bl_pow h
  by_cases h1 : q / 2 = 0
  · have : q = 1 := by omega
    subst this
    decide +kernel
  · obtain ⟨k, hk⟩ : ∃ k, bl q = k + 1 := ⟨bl q - 1, by omega⟩
    rw [hk] at b1 b2 ⊢
    rw [Nat.add_sub_cancel] at b1
    rcases Nat.eq_zero_or_pos k with e | e
    · subst e
      rw [Nat.zero_add, Nat.pow_one] at b2
      omega
    · obtain ⟨j, rfl⟩ : ∃ j, k = j + 1 := ⟨k - 1, by omega⟩
      have h3 : 2 ^ j ≤ q / 2 := by rw [Nat.pow_succ] at b1; omega
      have h4 : q / 2 < 2 ^ (j + 1) := by rw [Nat.pow_succ] at b2; omega
      have := bl_between h3 h4
      omega
theorem bl_lt {q n : Nat} (h : bl q ≤ n) : q < 2 ^ n := by
  rcases Nat.eq_zero_or_pos q with e | e
  · subst e; exact Nat.pow_pos (by omega)
  · exact Nat.lt_of_lt_of_le (bl_pow e).2.2 (Nat.pow_le_pow_right (by omega) h)
theorem lt_bl2 {q n : Nat} (h : n < bl q) : 2 ^ n ≤ q := by
  have e : 0 < q := by
    rcases Nat.eq_zero_or_pos q with e | e
    · subst e; exact absurd h (by simp [bl])
    · exact e
  exact Nat.le_trans (Nat.pow_le_pow_right (by omega) (by omega)) (bl_pow e).2.1
theorem first_up {lo e : Int} {p d k E : Nat} (hl0 : lo ≤ 0) (he : e = (k : Int)) (hE : (E : Int) = e - (lo - 1)) (hd : 0 < d) : p / (d * 2 ^ k) = p * 2 ^ spC lo / (2 ^ E * d) ∧ decide (p % (d * 2 ^ k) ≠ 0) = decide (p * 2 ^ spC lo % (2 ^ E * d) ≠ 0) := by
  have hc : spC lo + k = E := by unfold spC; omega
  have e1 : 2 ^ E * d = d * 2 ^ k * 2 ^ spC lo := by rw [← hc, Nat.pow_add]; ac_rfl
  have hp := Nat.pow_pos (a := 2) (n := spC lo) (by omega)
  rw [e1, Nat.mul_div_mul_right _ _ hp, Nat.mul_mod_mul_right]
  refine ⟨rfl, ?_⟩
  rw [decide_eq_decide]
  constructor
  · intro h e; rcases Nat.mul_eq_zero.1 e with e | e <;> omega
  · intro h e; rw [e, Nat.zero_mul] at h; exact h rfl
theorem first_down {lo e : Int} {p d k E : Nat} (hl0 : lo ≤ 0) (he : e = -(k : Int)) (hE : (E : Int) = e - (lo - 1)) (hd : 0 < d) : p * 2 ^ k / d = p * 2 ^ spC lo / (2 ^ E * d) ∧ decide (p * 2 ^ k % d ≠ 0) = decide (p * 2 ^ spC lo % (2 ^ E * d) ≠ 0) := by
  have hc : spC lo = k + E := by unfold spC; omega
  have e1 : p * 2 ^ spC lo = p * 2 ^ k * 2 ^ E := by rw [hc, Nat.pow_add]; ac_rfl
  have hp := Nat.pow_pos (a := 2) (n := E) (by omega)
  rw [e1, Nat.mul_comm (2 ^ E) d, Nat.mul_div_mul_right _ _ hp, Nat.mul_mod_mul_right]
  refine ⟨rfl, ?_⟩
  rw [decide_eq_decide]
  constructor
  · intro h e; rcases Nat.mul_eq_zero.1 e with e | e <;> omega
  · intro h e; rw [e, Nat.zero_mul] at h; exact h rfl
theorem wrapS {a : Int} (h0 : -9223372036854775808 ≤ a) (h : a < 9223372036854775808) : IntKind.i64.wrap a = a := by rw [IntKind.wrap_i64]; omega
set_option maxHeartbeats 4000000 in
theorem rsplit_any (v u : Value) (p d dg : Nat) (lo : Int) (w : World) (hv : IsNat w v p) (hu : IsNat w u d) (hp : 0 < p) (hd : 0 < d) (sp : wl p < 268435456) (sd : wl d < 268435456) (hg1 : 24 ≤ dg) (hg2 : dg ≤ 53) (hl1 : -1074 ≤ lo) (hl2 : lo ≤ -149) :
    Calls Tryz.prog 105 #[v, u, .int .i64 (dg : Int), .int .i64 lo] w (RetSpl w dg lo p d) := by
  have lp := bl_wl p
  have ld := bl_wl d
  obtain ⟨e0, he0⟩ : ∃ e0 : Int, e0 = (bl p : Int) - (bl d : Int) - (dg : Int) - 1 := ⟨_, rfl⟩
  obtain ⟨e, he⟩ : ∃ e : Int, e = max e0 (lo - 1) := ⟨_, rfl⟩
  obtain ⟨E, hE⟩ : ∃ E : Nat, (E : Int) = e - (lo - 1) := ⟨(e - (lo - 1)).toNat, by omega⟩
  have HB1 := hid (fun W (hb : Below w.heap.size w W) => rBits_any v p W (hv.below hb) (by omega))
  have HB2 := hid (fun W (hb : Below w.heap.size w W) => rBits_any u d W (hu.below hb) (by omega))
  have HV := hid hv
  have HU := hid hu
  have w1 : IntKind.i64.wrap ((bl p : Int) - (bl d : Int)) = (bl p : Int) - (bl d : Int) := wrapS (by omega) (by omega)
  have w2 : IntKind.i64.wrap ((bl p : Int) - (bl d : Int) - (dg : Int)) = (bl p : Int) - (bl d : Int) - (dg : Int) := wrapS (by omega) (by omega)
  have w3 : IntKind.i64.wrap ((bl p : Int) - (bl d : Int) - (dg : Int) - 1) = e0 := by rw [he0]; exact wrapS (by omega) (by omega)
  have w4 : IntKind.i64.wrap (lo - 1) = lo - 1 := wrapS (by omega) (by omega)
  obtain ⟨A1, n1, c1, rfl, hn1⟩ := hv.ex
  obtain ⟨A2, n2, c2, rfl, hn2⟩ := hu.ex
  clear hn1 hn2 hv hu
  go_enter Tryz.func105, Tryz.ntmps105
  go_wp2_with fail
  refine (HB1.out _ rfB).mono ?_
  rintro e9 W9 ⟨rfl, rfl⟩
  go_wp2_with fail
  refine (HB2.out _ rfB).mono ?_
  rintro e9 W9 ⟨rfl, rfl⟩
  go_upto_if 27 with fail
  go_cut [9] from 24 to 29 (fun s9 wx => s9 = .int .i64 e ∧ w = wx)
  case first =>
    by_cases hc : e0 < lo - 1
    · have h9 : e = lo - 1 := by omega
      go_wp2
      go_meet
      exact ⟨by rw [h9], rfl⟩
    · have h9 : e = e0 := by omega
      go_wp2
      go_meet
      exact ⟨by rw [h9, he0], rfl⟩
  case rest =>
  obtain ⟨rfl, rfl⟩ := hcut
  clear w1 w2 w3 w4
  have hlong : E = 0 ∨ 2 ^ dg ≤ p * 2 ^ spC lo / (2 ^ E * d) := by
    rcases (show e = lo - 1 ∨ e = e0 by omega) with h | h
    · left; omega
    · right
      have := first_long (dg := dg) (lo := lo) (e := e) hp hd (by rw [h, he0]) (by omega) (by omega)
      rw [show (e - (lo - 1)).toNat = E by omega] at this
      exact this
  obtain ⟨q0, hq0⟩ : ∃ q0, q0 = p * 2 ^ spC lo / (2 ^ E * d) := ⟨_, rfl⟩
  have hEb : E < 17179869184 := by omega
  have HLONG := hid hlong
  have HE := hid he
  have HE0 := hid he0
  clear hlong he he0
  go_upto_if 31 with fail
  go_cut [13, 14] from 30 to 48 (fun s13 s14 wx => ∃ r0, IsNat wx s13 q0 ∧ IsNat wx s14 r0 ∧ decide (r0 ≠ 0) = decide (p * 2 ^ spC lo % (2 ^ E * d) ≠ 0) ∧ Below w.heap.size w wx)
  case first =>
    by_cases hc : 0 ≤ e
    · obtain ⟨k, hk⟩ : ∃ k : Nat, e = (k : Int) := ⟨e.toNat, by omega⟩
      obtain ⟨f1, f2⟩ := first_up (p := p) (d := d) (show lo ≤ 0 by omega) hk hE hd
      have HF1 := hid (f1.trans hq0.symm)
      have HF2 := hid f2
      have hwd : wl (d * 2 ^ k) < 549755813888 := by have := wl_up d k; omega
      have hdk : 0 < d * 2 ^ k := Nat.mul_pos hd (Nat.pow_pos (by omega))
      have hkb : k < 17179869184 := by have := HE.out; have := HE0.out; omega
      have hks : wl d + k / 32 < 1099511627776 := by omega
      subst hk
      clear HE
      clear f1 f2 hE
      go_wp2_with fail
      refine (rNatShl_any _ d k w HU.out (by omega) (by omega)).mono ?_
      rintro e9 W2 ⟨v2, rfl, h2, hb2⟩
      obtain ⟨A3, n3, c3, rfl, -⟩ := h2.ex
      go_wp2_with fail
      refine (rNatDiv_any _ _ p (d * 2 ^ k) W2 (HV.out.below hb2) h2 hdk (by omega) hwd).mono ?_
      rintro e9 W3 ⟨v3, v4, rfl, h3, h4, hb3⟩
      obtain ⟨A4, n4, c4, rfl, -⟩ := h3.ex
      obtain ⟨A5, n5, c5, rfl, -⟩ := h4.ex
      have H3 := hid h3
      have H4 := hid h4
      have B3 := hid (below_trans hb2 hb3)
      clear h3 h4 h2 hb2 hb3 hwd hdk
      go_wp2
      go_meet
      exact ⟨_, by rw [← HF1.out]; exact H3.out, H4.out, HF2.out, B3.out⟩
    · obtain ⟨k, hk⟩ : ∃ k : Nat, e = -(k : Int) := ⟨(-e).toNat, by omega⟩
      obtain ⟨f1, f2⟩ := first_down (p := p) (d := d) (show lo ≤ 0 by omega) hk hE hd
      have HF1 := hid (f1.trans hq0.symm)
      have HF2 := hid f2
      have hwd : wl (p * 2 ^ k) < 549755813888 := by have := wl_up p k; omega
      have hkb : k < 17179869184 := by have := HE.out; have := HE0.out; omega
      have hks : wl p + k / 32 < 1099511627776 := by omega
      have wk : IntKind.i64.wrap (-e) = (k : Int) := by rw [wrapS (by omega) (by omega)]; omega
      clear f1 f2 hE hk
      go_wp2_with fail
      refine (rNatShl_any _ p k w HV.out (by omega) (by omega)).mono ?_
      rintro e9 W2 ⟨v2, rfl, h2, hb2⟩
      obtain ⟨A3, n3, c3, rfl, -⟩ := h2.ex
      go_wp2_with fail
      refine (rNatDiv_any _ _ (p * 2 ^ k) d W2 h2 (HU.out.below hb2) hd hwd (by omega)).mono ?_
      rintro e9 W3 ⟨v3, v4, rfl, h3, h4, hb3⟩
      obtain ⟨A4, n4, c4, rfl, -⟩ := h3.ex
      obtain ⟨A5, n5, c5, rfl, -⟩ := h4.ex
      have H3 := hid h3
      have H4 := hid h4
      have B3 := hid (below_trans hb2 hb3)
      clear h3 h4 h2 hb2 hb3 hwd
      go_wp2
      go_meet
      exact ⟨_, by rw [← HF1.out]; exact H3.out, H4.out, HF2.out, B3.out⟩
  case rest =>
  obtain ⟨r0, h13, h14, hr0, hbc⟩ := hcut
  obtain ⟨A6, n6, c6, rfl, -⟩ := h13.ex
  obtain ⟨A7, n7, c7, rfl, hn7⟩ := h14.ex
  have hwq : wl q0 < 536870912 := by
    have h1 : q0 ≤ p * 2 ^ spC lo := by rw [hq0]; exact Nat.div_le_self _ _
    have h2 := wl_mono h1
    have h3 := wl_up p (spC lo)
    have h4 : spC lo ≤ 1075 := by unfold spC; omega
    omega
  have hm0 : decide ((0 : Int) < (n7 : Int)) = decide (r0 ≠ 0) := by
    rw [decide_eq_decide]
    have := wl_eq_zero (x := r0)
    omega
  obtain ⟨m0, hm0'⟩ : ∃ m0 : Bool, m0 = decide (r0 ≠ 0) := ⟨_, rfl⟩
  rw [← hm0'] at hm0 hr0
  have HM0 := hid (show decide (0 < n7) = m0 by rw [← hm0, decide_eq_decide]; omega)
  have hst := Spst.first (lo := lo) (p := p) (d := d) (E := E) hq0 hr0
  have hlong2 : E + 1 = 1 ∨ 2 ^ (dg - 1) ≤ q0 / 2 := by
    rcases HLONG.out with h | h
    · left; omega
    · right
      rw [← hq0] at h
      obtain ⟨g, rfl⟩ : ∃ g, dg = g + 1 := ⟨dg - 1, by omega⟩
      rw [Nat.pow_succ] at h
      rw [Nat.add_sub_cancel]
      omega
  have HST := hid hst
  clear hq0
  have HL2 := hid hlong2
  have H13 := hid h13
  have HBC := hid hbc
  have hbq := bl_wl q0
  have hbm : E + 1 + bl (q0 / 2) ≤ E + 1 + bl q0 := by
    rcases Nat.eq_zero_or_pos q0 with h | h
    · rw [h]; exact Nat.le_refl _
    · rcases bl_half2 h with h | h <;> omega
  have we : IntKind.i64.wrap (e + 1) = ((E + 1 : Nat) : Int) + lo - 1 := by rw [wrapS (by omega) (by omega)]; omega
  clear hst hlong2 h13 h14 hr0 hbc hm0' HLONG hn7 HB1 HB2 HV HU HE HE0
  go_wp2_with fail
  refine (rBit0_any _ q0 _ H13.out (by omega)).mono ?_
  rintro e9 W9 ⟨rfl, rfl⟩
  go_wp2_with fail
  refine (rNatShr_any _ q0 1 _ H13.out (by omega) (by omega)).mono ?_
  rintro e9 W4 ⟨v4, rfl, h4, hb4⟩
  obtain ⟨A8, n8, c8, rfl, -⟩ := h4.ex
  rw [Nat.pow_one] at h4
  have H4 := hid h4
  have B4 := hid (below_trans HBC.out hb4)
  clear h4 hb4 H13 HBC
  go_wp2_with fail
  go_loopw [9, 10, 11, 13] (fun v9 v10 v11 v13 wr => SpRel w dg lo p d (E + 1 + bl q0) q0 v9 v10 v11 v13 wr) (fun v9 _ _ _ _ => (lo + ((E + 1 + bl q0 : Nat) : Int) - (intOf v9)).toNat)
  case atStart => exact ⟨q0 / 2, E + 1, q0 % 2, m0, by first | rfl | (congr 1; omega), rfl, by first | rfl | (rw [HM0.out]), H4.out, HST.out, HL2.out, hbm, Nat.div_le_self _ _, B4.out⟩
  case round =>
    clear H4 HST HL2 hbm B4 we hm0
    obtain ⟨q, F, last, more, rfl, rfl, rfl, h13, hst, hlong, hM, hQ, hB⟩ := hrel
    obtain ⟨A9, n9, c9, rfl, -⟩ := h13.ex
    have H13 := hid h13
    have HST := hid hst
    have HL := hid hlong
    have HB := hid hB
    have hwl : wl q < 536870912 := Nat.lt_of_le_of_lt (wl_mono hQ) hwq
    have hF0 := hst.e0
    clear h13 hst hlong hB
    go_wp2_with fail
    refine (rBits_any _ q _ H13.out (by omega)).mono ?_
    rintro e9 W9 ⟨rfl, rfl⟩
    have hbq2 := bl_wl q
    by_cases hb : dg < bl q
    · have hb' : (dg : Int) < (bl q : Int) := by omega
      have hq : 0 < q := Nat.lt_of_lt_of_le (Nat.pow_pos (by omega)) (lt_bl2 hb)
      have hbh : bl (q / 2) + 1 = bl q := by rcases bl_half2 hq with h | h <;> omega
      have hlq : 2 ^ (dg - 1) ≤ q / 2 := by
        have h := lt_bl2 hb
        obtain ⟨g, rfl⟩ : ∃ g, dg = g + 1 := ⟨dg - 1, by omega⟩
        rw [Nat.pow_succ] at h
        rw [Nat.add_sub_cancel]
        omega
      have HNX := hid (HST.out.next hd)
      have HLQ := hid hlq
      have hl2 : last = 0 ∨ last = 1 := by have := HST.out.hl; omega
      have we : IntKind.i64.wrap ((F : Int) + lo - 1 + 1) = (F : Int) + lo := by rw [wrapS (by omega) (by omega)]; omega
      have hF1 : (F : Int) + lo = ((F + 1 : Nat) : Int) + lo - 1 := by omega
      clear HST HL hlq hq
      rcases hl2 with rfl | rfl <;> cases more
      all_goals
        go_wp2_with fail
        refine (rBit0_any _ q _ H13.out (by omega)).mono ?_
        rintro e9 W9 ⟨rfl, rfl⟩
        go_wp2_with fail
        refine (rNatShr_any _ q 1 _ H13.out (by omega) (by omega)).mono ?_
        rintro e9 W4 ⟨v4, rfl, h4, hb4⟩
        obtain ⟨A8, n8, c8, rfl, -⟩ := h4.ex
        rw [Nat.pow_one] at h4
        have H4 := hid h4
        have B4 := hid (below_trans HB.out hb4)
        clear h4 hb4
        go_wp2
        go_roundw
        case rel => exact ⟨q / 2, F + 1, q % 2, _, by first | rfl | (congr 1; omega), rfl, rfl, H4.out, HNX.out, .inr HLQ.out, by omega, by omega, B4.out⟩
        case measure => simp [intOf]; omega
    · have hb' : ¬ (dg : Int) < (bl q : Int) := by omega
      obtain ⟨s1, s2, s3, s4⟩ := HST.out.spl (dg := dg) (by omega) hd (bl_lt (by omega)) HL.out
      have HR := hid (show RetSpl w dg lo p d (.returned (.tuple #[.slice A9 n9 c9, .int .i64 ((F : Int) + lo - 1), .int .u32 (last : Int), .bool more])) _ from
        ⟨_, q, F - 1, last, more, by rw [show ((F : Int) + lo - 1) = ((F - 1 : Nat) : Int) + lo by omega], H13.out, s1, s3, s2, s4, by omega, HB.out⟩)
      clear s1 s2 s3 s4 HST HL HB H13
      go_wp2
      refine bodyPost_ret (v := .tuple #[.slice A9 n9 c9, .int .i64 ((F : Int) + lo - 1), .int .u32 (last : Int), .bool more]) (by simp [results, Tryz.results105]) rfl ?_
      exact HR.out
end Go.Proofs.YtccldiokpgjocaaGreatDoor
