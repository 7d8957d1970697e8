import Derived.Test.YtccldiokpgjocaaGreatDoorP58
set_option linter.unusedSimpArgs false
set_option linter.unusedVariables false
namespace Go.Proofs.YtccldiokpgjocaaGreatDoor
open Go.RowKit
set_option maxRecDepth 100000
def TwB (p d : Nat) (up : Bool) (b : Nat) : Prop := (p = 0 ∧ b = 0) ∨ (p ≠ 0 ∧ ∃ m t, Spl 53 (-1074) p d m t ∧ (if 1024 < (bl m : Int) + ((t : Int) - 1074) then b = (if up then 9218868437227405312 else 9218868437227405311) else
  ∃ m2 t2 : Nat, Rnd 53 p (-1074) d (if up then 1 else 0) m2 t2 ∧ (if 1024 < (bl m2 : Int) + ((t2 : Int) - 1074) then b = 9218868437227405312 else ∃ m' E' : Nat, m' * 2 ^ E' = m2 * 2 ^ t2 ∧ (E' = 0 ∨ 4503599627370496 ≤ m') ∧ m' < 9007199254740992 ∧ b = fbits m' E')))
theorem up1_cases {dg : Nat} {lo : Int} {p d m t last : Nat} {more : Bool} (hd : 0 < d) (h1 : last < 2) (h2 : decide (last = 1) = decide (2 ^ t * d ≤ 2 * splR lo p d m t)) (h3 : more = decide (2 * splR lo p d m t ≠ (if last = 1 then 2 ^ t * d else 0))) :
    upR m (splR lo p d m t) (2 ^ t * d) ((1 : Nat) : Int) = (decide (last = 1) || more) := by
  have hu : upR m (splR lo p d m t) (2 ^ t * d) ((1 : Nat) : Int) = decide (0 < splR lo p d m t) := rfl
  have hV : 0 < 2 ^ t * d := Nat.mul_pos (Nat.pow_pos (by omega)) hd
  rw [hu, h3]
  generalize splR lo p d m t = R at *
  generalize 2 ^ t * d = V at *
  rw [decide_eq_decide] at h2
  rcases (show last = 0 ∨ last = 1 by omega) with rfl | rfl
  · rw [if_neg (by omega), decide_eq_false (show ¬ (0 = 1) by omega), Bool.false_or, decide_eq_decide]
    omega
  · have hn : V ≤ 2 * R := h2.1 rfl
    rw [decide_eq_true (show 0 < R by omega)]
    rfl
theorem rfloat_zero (v : Value) (e : Int) (w : World) (h : IsNat w v 0) :
    Calls Tryz.prog 110 #[v, .int .i64 e] w fun e w' => e = .returned (.float .f64 0) ∧ w = w' := by
  obtain ⟨A, c, rfl, -⟩ := h
  rw [wl_zero]
  go_enter Tryz.func110, Tryz.ntmps110
  go_wp2
  go_ret
  exact ⟨rfl, rfl⟩
theorem rfloat_all (v : Value) (m E : Nat) (w : World) (h : IsNat w v m) (hm : m < 9007199254740992) (hE : E < 1099511627776) :
    Calls Tryz.prog 110 #[v, .int .i64 ((E : Int) - 1074)] w fun e w' => ∃ m' E' : Nat, e = .returned (.float .f64 (fbits m' E')) ∧ m' * 2 ^ E' = m * 2 ^ E ∧ (E' = 0 ∨ 4503599627370496 ≤ m') ∧ m' < 9007199254740992 ∧ w = w' := by
  rcases Nat.eq_zero_or_pos m with e | e
  · subst e
    exact (rfloat_zero v _ w h).mono fun e w' ⟨h1, h2⟩ => ⟨0, 0, h1, (by simp), .inl rfl, (by omega), h2⟩
  · exact (rfloat_any v m E w h hm e hE).mono fun e w' ⟨m', E', q1, q2, q3, _, q4, q5⟩ => ⟨m', E', q4, q1, q2, q3, q5⟩
set_option maxHeartbeats 4000000 in
theorem rtoward_any (v u : Value) (p d : Nat) (up : Bool) (w : World) (hv : IsNat w v p) (hu : IsNat w u d) (hd : 0 < d) (sp : wl p < 268435456) (sd : wl d < 268435456) :
    Calls Tryz.prog 50 #[v, u, .bool up] w fun e w' => ∃ b, e = .returned (.float .f64 b) ∧ TwB p d up b ∧ Below w.heap.size w w' := by
  obtain ⟨A1, n1, c1, rfl, hn1⟩ := hv.ex
  obtain ⟨A2, n2, c2, rfl, hn2⟩ := hu.ex
  by_cases h0 : p = 0
  · have hz : n1 = 0 := by rw [hn1, h0]; exact wl_zero
    subst hz
    have HR := hid (show TwB p d up 0 from .inl ⟨h0, rfl⟩)
    clear hv hu hn1 hn2 h0
    go_enter Tryz.func50, Tryz.ntmps50
    go_wp2
    go_ret
    exact ⟨0, rfl, HR.out, bel⟩
  have hn0 : ¬ (n1 : Int) = 0 := by have := wl_eq_zero (x := p); omega
  have HS := hid (fun W (hb : Below w.heap.size w W) => rsplit_any _ _ p d 53 (-1074) W (hv.below hb) (hu.below hb) (by omega) hd sp sd (by omega) (by omega) (by omega) (by omega))
  have HA0 := hid h0
  clear hv hu hn1 hn2 h0
  go_enter Tryz.func50, Tryz.ntmps50
  go_wp2_with fail
  refine (HS.out _ bel).mono ?_
  rintro e W2 ⟨r, m, t, last, more, rfl, hm, hspl, hl, hl1', hmore, ht, hb2⟩
  obtain ⟨A3, n3, c3, rfl, -⟩ := hm.ex
  have hup := up1_cases (lo := -1074) (p := p) (d := d) (m := m) (t := t) (dg := 53) hd hl hl1' hmore
  have hm53 : m < 9007199254740992 := by
    have h2 := hspl.hm
    rw [two53] at h2
    exact h2
  have hwm : wl m ≤ 2 := wl_le_two (by omega)
  have hbl := bl_wl m
  have e1 : (t : Int) + -1074 = (t : Int) - 1074 := by omega
  have HSP := hid hspl
  have HM := hid hm
  have B2 := hid hb2
  have HTT := hid ht
  have HTW := hid (show ∀ b, (if 1024 < (bl m : Int) + ((t : Int) - 1074) then b = (if up then 9218868437227405312 else 9218868437227405311) else
    ∃ m2 t2 : Nat, Rnd 53 p (-1074) d (if up then 1 else 0) m2 t2 ∧ (if 1024 < (bl m2 : Int) + ((t2 : Int) - 1074) then b = 9218868437227405312 else ∃ m' E' : Nat, m' * 2 ^ E' = m2 * 2 ^ t2 ∧ (E' = 0 ∨ 4503599627370496 ≤ m') ∧ m' < 9007199254740992 ∧ b = fbits m' E')) → TwB p d up b from fun b h => .inr ⟨HA0.out, m, t, hspl, h⟩)
  have wb : IntKind.i64.wrap ((bl m : Int) + ((t : Int) - 1074)) = (bl m : Int) + ((t : Int) - 1074) := wrapS (by omega) (by omega)
  have HUP := hid hup
  clear hup hspl hm hb2 hl1' hmore HS ht
  rw [e1]
  go_wp2_with fail
  refine (rBits_any _ m _ HM.out (by omega)).mono ?_
  rintro e9 W9 ⟨rfl, rfl⟩
  by_cases hov : (1024 : Int) < (bl m : Int) + ((t : Int) - 1074)
  · cases up
    · have HR := hid (HTW.out 9218868437227405311 (by rw [if_pos hov]; rfl))
      clear HTW
      go_wp2
      go_ret
      exact ⟨_, rfl, HR.out, B2.out⟩
    · have HR := hid (HTW.out 9218868437227405312 (by rw [if_pos hov]; rfl))
      clear HTW
      go_wp2_with fail
      refine (inf_one _).mono ?_
      rintro e9 W9 ⟨rfl, rfl⟩
      go_wp2
      go_ret
      exact ⟨_, rfl, HR.out, B2.out⟩
  have HTW2 := hid (show ∀ b m2 t2, Rnd 53 p (-1074) d (if up then 1 else 0) m2 t2 → (if 1024 < (bl m2 : Int) + ((t2 : Int) - 1074) then b = 9218868437227405312 else ∃ m' E' : Nat, m' * 2 ^ E' = m2 * 2 ^ t2 ∧ (E' = 0 ∨ 4503599627370496 ≤ m') ∧ m' < 9007199254740992 ∧ b = fbits m' E') → TwB p d up b from fun b m2 t2 h1 h2 =>
    HTW.out b (by rw [if_neg hov]; exact ⟨m2, t2, h1, h2⟩))
  clear HTW
  have HOV := hid hov
  obtain ⟨ru, hru⟩ : ∃ ru : Bool, (up && (decide (last = 1) || more)) = ru := ⟨_, rfl⟩
  have hmlt := HSP.out.hm
  have hmt := HSP.out.ht
  have HR1 := hid (rnd_up (dg := 53) (m := m) (t := t) (by omega) hmlt hmt)
  have HRN := hid (show ∀ m2 t2, m2 * 2 ^ t2 = (m + (if ru then 1 else 0)) * 2 ^ t → m2 < 2 ^ 53 → (t2 = 0 ∨ 2 ^ (53 - 1) ≤ m2) → t2 ≤ t + 1 → Rnd 53 p (-1074) d (if up then 1 else 0) m2 t2 from fun m2 t2 e1 e2 e3 e4 =>
    ⟨m, t, HSP.out, HTT.out, by
      rw [e1, ← hru]
      cases up
      · rfl
      · rw [Bool.true_and, ← HUP.out]
        rfl, e2, e3, e4⟩)
  have HMLT := hid hmlt
  have HMT := hid hmt
  have hwrap : IntKind.i64.wrap ((t : Int) - 1074 + 1) = ((t + 1 : Nat) : Int) - 1074 := by have := HTT.out; rw [wrapS (by omega) (by omega)]; omega
  clear HUP HSP hmlt hmt
  go_upto_region 8 with fail
  go_cut [36] from 29 to 35 (fun s wx => s = .bool ru ∧ W2 = wx)
  case first =>
    rcases (show last = 0 ∨ last = 1 by omega) with rfl | rfl <;> cases more <;> cases up
    all_goals
      have hru2 := hru
      simp at hru2
      subst hru2
      clear hru
      go_wp2
      go_meet
      exact ⟨rfl, rfl⟩
  case rest =>
  obtain ⟨rfl, rfl⟩ := hcut
  clear hru hl
  cases ru
  · have HF := hid (rfloat_all _ m t W2 HM.out hm53 (by have := HTT.out; omega))
    have HRD := hid (HRN.out m t (by simp) HMLT.out HMT.out (by omega))
    clear HR1 HRN HMLT HMT hwrap wb
    go_wp2_with fail
    refine HF.out.mono ?_
    rintro e9 W9 ⟨m', E', rfl, q1, q2, q3, rfl⟩
    have HR := hid (HTW2.out (fbits m' E') m t HRD.out (by rw [if_neg (by have := HOV.out; omega)]; exact ⟨m', E', q1, q2, q3, rfl⟩))
    clear q1 q2 q3 HTW2 HF HRD HOV
    generalize fbits m' E' = B at *
    go_wp2
    go_ret
    exact ⟨B, rfl, HR.out, B2.out⟩
  · go_wp2_with fail
    refine (rNatAdd_any _ _ m 1 _ (HM.out.below (below_alloc _ _)) (one_nat W2) (by omega) (by rw [wl_one]; omega)).mono ?_
    rintro e9 W4 ⟨v5, rfl, h5, hb4⟩
    obtain ⟨A5, n5, c5, rfl, -⟩ := h5.ex
    have H5 := hid h5
    have B4 := hid (below_trans B2.out (below_trans (below_alloc _ _) hb4))
    have hwa : wl (m + 1) ≤ 2 := wl_le_two (by omega)
    clear h5 hb4
    go_wp2_with fail
    refine (rBits_any _ (m + 1) _ H5.out (by omega)).mono ?_
    rintro e9 W9 ⟨rfl, rfl⟩
    go_upto_if 42 with fail
    go_cut [7, 8] from 42 to 46 (fun s11 s12 wx => ∃ m2 t2 : Nat, IsNat wx s11 m2 ∧ s12 = .int .i64 ((t2 : Int) - 1074) ∧ Rnd 53 p (-1074) d (if up then 1 else 0) m2 t2 ∧ t2 ≤ t + 1 ∧ wl m2 ≤ 3 ∧ Below w.heap.size w wx)
    case first =>
      by_cases hb : 53 < bl (m + 1)
      · have hbi : (53 : Int) < (bl (m + 1) : Int) := by omega
        obtain ⟨r1, r2, r3⟩ := HR1.out.1 hb
        have HRD := hid (HRN.out ((m + 1) / 2) (t + 1) (by simpa using r1) r2 (.inr r3) (by omega))
        clear r1 r2 r3
        go_wp2_with fail
        refine (rNatShr_any _ (m + 1) 1 _ H5.out (by omega) (by omega)).mono ?_
        rintro e9 W6 ⟨v6, rfl, h6, hb6⟩
        obtain ⟨A6, n6, c6, rfl, -⟩ := h6.ex
        rw [Nat.pow_one] at h6
        have H6 := hid h6
        have B6 := hid (below_trans B4.out hb6)
        have hw6 : wl ((m + 1) / 2) ≤ 3 := Nat.le_trans (wl_mono (Nat.div_le_self _ _)) (by omega)
        clear h6 hb6
        go_wp2
        go_meet
        exact ⟨(m + 1) / 2, t + 1, H6.out, by first | rfl | (congr 1; omega), HRD.out, by omega, hw6, B6.out⟩
      · have hbi : ¬ (53 : Int) < (bl (m + 1) : Int) := by omega
        obtain ⟨r1, r2⟩ := HR1.out.2 (by omega)
        have HRD := hid (HRN.out (m + 1) t (by simp) r1 r2 (by omega))
        clear r1 r2
        go_wp2
        go_meet
        exact ⟨m + 1, t, H5.out, rfl, HRD.out, by omega, by omega, B4.out⟩
    case rest =>
    obtain ⟨m2, t2, h11, rfl, hrn, htt, hw2, hbw⟩ := hcut
    obtain ⟨A7, n7, c7, rfl, hn7⟩ := h11.ex
    have H11 := hid h11
    have HRD := hid hrn
    have B7 := hid hbw
    have hbl2 := bl_wl m2
    have hm2 : m2 < 9007199254740992 := by
      obtain ⟨m', t', -, -, -, h, -, -⟩ := hrn.ex
      rw [two53] at h
      exact h
    have HF := hid (rfloat_all _ m2 t2 wc h11 hm2 (by have := HTT.out; omega))
    have wb2 : IntKind.i64.wrap ((bl m2 : Int) + ((t2 : Int) - 1074)) = (bl m2 : Int) + ((t2 : Int) - 1074) := by have := HTT.out; exact wrapS (by omega) (by omega)
    clear h11 hrn hbw hn7 hwrap wb HR1 HRN HMLT HMT HTT HOV HM B2 hm53 hm2
    go_wp2_with fail
    refine (rBits_any _ m2 _ H11.out (by omega)).mono ?_
    rintro e9 W9 ⟨rfl, rfl⟩
    by_cases hov2 : (1024 : Int) < (bl m2 : Int) + ((t2 : Int) - 1074)
    · have HR := hid (HTW2.out 9218868437227405312 m2 t2 HRD.out (by rw [if_pos hov2]))
      clear HTW2 HF HRD
      go_wp2_with fail
      refine (inf_one _).mono ?_
      rintro e9 W9 ⟨rfl, rfl⟩
      go_wp2
      go_ret
      exact ⟨_, rfl, HR.out, B7.out⟩
    · go_wp2_with fail
      refine HF.out.mono ?_
      rintro e9 W9 ⟨m', E', rfl, q1, q2, q3, rfl⟩
      have HR := hid (HTW2.out (fbits m' E') m2 t2 HRD.out (by rw [if_neg (by omega)]; exact ⟨m', E', q1, q2, q3, rfl⟩))
      clear q1 q2 q3 HTW2 HF HRD
      generalize fbits m' E' = B at *
      go_wp2
      go_ret
      exact ⟨B, rfl, HR.out, B7.out⟩
end Go.Proofs.YtccldiokpgjocaaGreatDoor
set_option linter.unusedSimpArgs false
set_option linter.unusedVariables false
namespace Go.Proofs.YtccldiokpgjocaaGreatDoor
theorem norm_uniq {g m t m' t' : Nat} (hg : 1 ≤ g) (h : m * 2 ^ t = m' * 2 ^ t') (h1 : m < 2 ^ g) (h1' : m' < 2 ^ g) (h2 : t = 0 ∨ 2 ^ (g - 1) ≤ m) (h2' : t' = 0 ∨ 2 ^ (g - 1) ≤ m') : m = m' ∧ t = t' := by
  have key : ∀ {m t m' t' : Nat}, m * 2 ^ t = m' * 2 ^ t' → m < 2 ^ g → (t' = 0 ∨ 2 ^ (g - 1) ≤ m') → ¬ t < t' := fun {m t m' t'} h h1 h2' hlt => by
    obtain ⟨k, rfl⟩ : ∃ k, t' = t + (k + 1) := ⟨t' - t - 1, by omega⟩
    have hm' : 2 ^ (g - 1) ≤ m' := by omega
    have e : m * 2 ^ t = m' * 2 ^ (k + 1) * 2 ^ t := by rw [h, Nat.pow_add]; ac_rfl
    have e2 := Nat.eq_of_mul_eq_mul_right (Nat.pow_pos (by omega)) e
    obtain ⟨j, rfl⟩ : ∃ j, g = j + 1 := ⟨g - 1, by omega⟩
    rw [Nat.add_sub_cancel] at hm'
    rw [Nat.pow_succ] at h1 e2
    have h3 : 2 ^ j * (2 ^ k * 2) ≤ m' * (2 ^ k * 2) := Nat.mul_le_mul_right _ hm'
    have h4 : 2 ^ j * 2 ≤ 2 ^ j * (2 ^ k * 2) := Nat.mul_le_mul_left _ (by have := Nat.pow_pos (a := 2) (n := k) (by omega); omega)
    omega
  have a1 := key h h1 h2'
  have a2 := key h.symm h1' h2
  obtain rfl : t = t' := by omega
  exact ⟨Nat.eq_of_mul_eq_mul_right (Nat.pow_pos (by omega)) h, rfl⟩
theorem rnd_cases {dg m u t m2 t2 : Nat} (hdg : 1 ≤ dg) (hm : m < 2 ^ dg) (ht : t = 0 ∨ 2 ^ (dg - 1) ≤ m) (hu : u ≤ 1) (h : m2 * 2 ^ t2 = (m + u) * 2 ^ t) (h1 : m2 < 2 ^ dg) (h2 : t2 = 0 ∨ 2 ^ (dg - 1) ≤ m2) :
    (m2 = m + u ∧ t2 = t ∧ m + u < 2 ^ dg) ∨ (m + u = 2 ^ dg ∧ m2 = 2 ^ (dg - 1) ∧ t2 = t + 1) := by
  rcases Nat.lt_or_ge (m + u) (2 ^ dg) with c | c
  · left
    obtain ⟨e1, e2⟩ := norm_uniq hdg h h1 c h2 (by omega)
    exact ⟨e1, e2, c⟩
  · right
    have e : m + u = 2 ^ dg := by omega
    obtain ⟨j, rfl⟩ : ∃ j, dg = j + 1 := ⟨dg - 1, by omega⟩
    rw [Nat.add_sub_cancel] at h2 ⊢
    have hp := Nat.pow_pos (a := 2) (n := j) (by omega)
    have e3 := Nat.pow_succ 2 j
    obtain ⟨e1, e2⟩ := norm_uniq (g := j + 1) (m' := 2 ^ j) (t' := t + 1) hdg (by rw [h, e, Nat.pow_succ, Nat.pow_succ]; ac_rfl) h1 (by omega) (by rw [Nat.add_sub_cancel]; exact h2) (by rw [Nat.add_sub_cancel]; omega)
    exact ⟨e, e1, e2⟩
theorem bl_full {m : Nat} (h1 : 4503599627370496 ≤ m) (h2 : m < 9007199254740992) : bl m = 53 := by
  have := bl_between (n := 52) (m := 53) (x := m) (by simpa using h1) (by simpa using h2)
  omega
theorem bl_short {m : Nat} (h2 : m < 9007199254740992) : bl m ≤ 53 := bl_le (by simpa using h2)
theorem rnd_bits {p d way m2 t2 : Nat} (hp : 0 < p) (hd : 0 < d) (hw : way ≤ 2) (h : Rnd 53 p (-1074) d way m2 t2) : ∃ m t, Spl 53 (-1074) p d m t ∧
    (way ≠ 0 ∨ t ≤ 2045 → ((bl m2 : Int) + ((t2 : Int) - 1074) ≤ 1024 → ∀ m' E', m' * 2 ^ E' = m2 * 2 ^ t2 → (E' = 0 ∨ 4503599627370496 ≤ m') → m' < 9007199254740992 → rdF 53 (-1074) 971 p d (way : Int) = fbits m' E') ∧ (1024 < (bl m2 : Int) + ((t2 : Int) - 1074) → rdF 53 (-1074) 971 p d (way : Int) = 9218868437227405312)) := by
  obtain ⟨m, t, hs, -, he, h1, h2, -⟩ := h.ex
  obtain ⟨m0, t0, hs0, hr⟩ := rdF_spl (hi := 971) Fm.double hp hd
  obtain ⟨rfl, rfl⟩ := Spl.uniq (by omega) hs hs0 hd
  refine ⟨m, t, hs, fun hwt => ?_⟩
  have hrw := hr (way : Int)
  rw [two52] at hrw
  have hmlt := hs.hm
  have hmt := hs.ht
  have hcase := rnd_cases (dg := 53) (by omega) hmlt hmt (u := if upR m (splR (-1074) p d m t) (2 ^ t * d) (way : Int) then 1 else 0) (by split <;> omega) he h1 h2
  rw [two53] at hmlt h1 hcase
  rw [two52] at hmt h2 hcase
  generalize (if upR m (splR (-1074) p d m t) (2 ^ t * d) (way : Int) then 1 else 0) = u at *
  have hov : (way : Int) ≠ 0 → ovB 53 (-1074) 971 (way : Int) = 9218868437227405312 := fun hne => by
    unfold ovB
    rw [if_neg hne, infB_double]
  have hbl : bl m2 ≤ 53 := bl_short h1
  have hblf : 0 < t2 → bl m2 = 53 := fun hpos => bl_full (by omega) h1
  constructor
  · intro hle m' E' e1 e2 e3
    obtain ⟨rfl, rfl⟩ := norm_uniq (g := 53) (by omega) e1 (by rw [two53]; exact e3) (by rw [two53]; exact h1) (by rw [two52]; exact e2) (by rw [two52]; exact h2)
    have ht2 : E' ≤ 2045 := by
      rcases Nat.eq_zero_or_pos E' with h | h
      · omega
      · have := hblf h; omega
    have ht : t ≤ 2045 := by omega
    rw [if_neg (by omega)] at hrw
    rw [hrw]
    unfold fbits
    rw [if_neg (by omega)]
    omega
  · intro hgt
    have ht2 : 2046 ≤ t2 := by
      rcases Nat.eq_zero_or_pos t2 with h | h
      · omega
      · have := hblf h; omega
    by_cases c : (971 : Int) - (-1074) < (t : Int)
    · rw [if_pos c] at hrw
      rw [hrw]
      exact hov (by omega)
    · rw [if_neg c] at hrw
      rw [hrw]
      omega
theorem rdF_zero (d : Nat) (way : Int) : rdF 53 (-1074) 971 0 d way = 0 := by unfold rdF; rw [if_pos rfl]
theorem near_double {a : Int} {d b : Nat} (hd : 0 < d) (h : NrB 53 (-1074) 1024 a d b) : b = nearB a d := by
  unfold nearB
  rcases h with ⟨rfl, rfl⟩ | ⟨h0, m2, t2, hr, hb⟩
  · rw [show (0 : Int).natAbs = 0 from rfl, rdF_zero]
    rfl
  · obtain ⟨m, t, hs, hbits⟩ := rnd_bits (by omega) hd (by omega) hr
    obtain ⟨k1, k2⟩ := hbits (.inl (by omega))
    rw [show ((2 : Nat) : Int) = 2 from rfl] at k1 k2
    have hE : ((t2 : Int) + (-1074) + 1074).toNat = t2 := by omega
    have he : (t2 : Int) + (-1074) = (t2 : Int) - 1074 := by omega
    rcases hb with ⟨hm0, rfl⟩ | ⟨hm0, B, hbB, hB, hif⟩
    · have := k1 (by rw [hm0]; obtain ⟨-, -, -, -, -, -, h2, -⟩ := hr.ex; rw [hm0, two52] at h2; have : t2 = 0 := by omega
                     rw [this]; decide +kernel) 0 0 (by rw [hm0]; simp) (.inl rfl) (by omega)
      rw [this]
      show 0 = flt (fbits 0 0) _
      have : fbits 0 0 = 0 := by decide +kernel
      rw [this]
      unfold flt
      simp
    · rw [hE, he] at hif
      have hR : rdF 53 (-1074) 971 a.natAbs d 2 = B ∧ B ≠ 0 := by
        split at hif
        · rename_i c
          obtain ⟨m', E', q1, q2, q3, q4⟩ := hif
          refine ⟨by rw [q4]; exact k1 c m' E' q1 q2 q3, ?_⟩
          rw [q4]
          unfold fbits
          split
          · omega
          · intro e
            have hm' : m' = 0 := by omega
            rw [hm', Nat.zero_mul] at q1
            have := Nat.mul_pos hm0 (Nat.pow_pos (a := 2) (n := t2) (by omega))
            omega
        · rename_i c
          exact ⟨by rw [hif]; exact k2 (by omega), by rw [hif]; omega⟩
      rw [hR.1, hbB]
      by_cases hn : a < 0
      · rw [if_pos hn, decide_eq_true hn, flt_neg hB, if_neg hR.2]
      · rw [if_neg hn, decide_eq_false hn, flt_pos]
theorem tow_double {p d b : Nat} {up : Bool} (hd : 0 < d) (h : TwB p d up b) : b = rdF 53 (-1074) 971 p d (if up then 1 else 0) := by
  rcases h with ⟨rfl, rfl⟩ | ⟨h0, m, t, hs, hif⟩
  · rw [rdF_zero]
  · have hmlt := hs.hm
    have hmt := hs.ht
    rw [two53] at hmlt
    rw [two52] at hmt
    have hblf : 0 < t → bl m = 53 := fun hpos => bl_full (by omega) hmlt
    have hbl : bl m ≤ 53 := bl_short hmlt
    split at hif
    · rename_i c
      obtain ⟨m0, t0, hs0, hr⟩ := rdF_spl (hi := 971) Fm.double (Nat.pos_of_ne_zero h0) hd
      obtain ⟨rfl, rfl⟩ := Spl.uniq (by omega) hs hs0 hd
      have ht : 2046 ≤ t := by
        rcases Nat.eq_zero_or_pos t with h | h
        · omega
        · have := hblf h; omega
      rw [hr, if_pos (by omega), hif]
      cases up
      · exact ov_0.symm
      · exact ov_1.symm
    · rename_i c
      obtain ⟨m2, t2, hrn, hif⟩ := hif
      obtain ⟨m0, t0, hs0, hbits⟩ := rnd_bits (Nat.pos_of_ne_zero h0) hd (by split <;> omega) hrn
      obtain ⟨rfl, rfl⟩ := Spl.uniq (by omega) hs hs0 hd
      have ht : t ≤ 2045 := by
        rcases Nat.eq_zero_or_pos t with h | h
        · omega
        · have := hblf h; omega
      obtain ⟨k1, k2⟩ := hbits (.inr ht)
      have hw : (((if up then 1 else 0 : Nat) : Nat) : Int) = if up then 1 else 0 := by cases up <;> rfl
      rw [hw] at k1 k2
      split at hif
      · rename_i c2
        rw [hif, k2 c2]
      · rename_i c2
        obtain ⟨m', E', q1, q2, q3, q4⟩ := hif
        rw [q4, k1 (by omega) m' E' q1 q2 q3]
end Go.Proofs.YtccldiokpgjocaaGreatDoor
