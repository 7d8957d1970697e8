import Derived.Test.YtccldiokpgjocaaGreatDoorP38
import Derived.Test.YtccldiokpgjocaaGreatDoorP43
import Derived.Test.YtccldiokpgjocaaGreatDoorP51
import Derived.Test.YtccldiokpgjocaaGreatDoorP57
set_option linter.unusedSimpArgs false
set_option linter.unusedVariables false
namespace Go.Proofs.YtccldiokpgjocaaGreatDoor
open Go.RowKit
set_option maxRecDepth 100000
def fbits (m E : Nat) : Nat := if 2046 ≤ E then 9218868437227405312 else E * 4503599627370496 + m
def RetFl (w : World) (m E : Nat) (e : Ending) (w' : World) : Prop := ∃ m' E', m' * 2 ^ E' = m * 2 ^ E ∧ (E' = 0 ∨ 4503599627370496 ≤ m') ∧ m' < 9007199254740992 ∧ E' ≤ E ∧ e = .returned (.float .f64 (fbits m' E')) ∧ w = w'
def FlRel (w : World) (m n : Nat) (v5 v6 : Value) (wr : World) : Prop := ∃ j : Nat, v6 = .int .i64 ((j : Int) - 1) ∧ j ≤ n ∧ v5 = .int .u64 ((m / 4294967296 ^ j : Nat) : Int) ∧ w = wr
def FlRel2 (w : World) (m E : Nat) (v5 v1 : Value) (wr : World) : Prop := ∃ x F : Nat, v5 = .int .u64 (x : Int) ∧ v1 = .int .i64 ((F : Int) - 1074) ∧ x * 2 ^ F = m * 2 ^ E ∧ x < 9007199254740992 ∧ F ≤ E ∧ 0 < x ∧ w = wr
theorem shl_or {a d : Nat} (ha : a < 4294967296) (hd : d < 4294967296) : bits BinOp.or IntKind.u64 ((a : Int) * 4294967296) (d : Int) = ((a * 4294967296 + d : Nat) : Int) := by
  rw [show (a : Int) * 4294967296 = ((a * 4294967296 : Nat) : Int) by omega, u64_or_nat _ _ (by omega) (by omega)]
  congr 1
  have := Nat.two_pow_add_eq_or_of_lt (i := 32) (b := d) (by simpa using hd) a
  rw [Nat.mul_comm] at this
  simp at this
  omega
theorem shl_or52 {a d : Nat} (ha : a < 4096) (hd : d < 4503599627370496) : bits BinOp.or IntKind.u64 ((a : Int) * 4503599627370496) (d : Int) = ((a * 4503599627370496 + d : Nat) : Int) := by
  rw [show (a : Int) * 4503599627370496 = ((a * 4503599627370496 : Nat) : Int) by omega, u64_or_nat _ _ (by omega) (by omega)]
  congr 1
  have := Nat.two_pow_add_eq_or_of_lt (i := 52) (b := d) (by simpa using hd) a
  rw [Nat.mul_comm] at this
  simp at this
  omega
theorem word_step {m j : Nat} (hj : 0 < j) : m / 4294967296 ^ j * 4294967296 + dg m (j - 1) = m / 4294967296 ^ (j - 1) := by
  obtain ⟨k, rfl⟩ : ∃ k, j = k + 1 := ⟨j - 1, by omega⟩
  rw [Nat.add_sub_cancel, Nat.pow_succ, ← Nat.div_div_eq_div_mul]
  have h : dg m k = m / 4294967296 ^ k % 4294967296 := rfl
  rw [h, Nat.mul_comm]
  exact Nat.div_add_mod _ _
set_option maxHeartbeats 2000000 in
theorem rfloat_any (v : Value) (m E : Nat) (w : World) (h : IsNat w v m) (hm : m < 9007199254740992) (h0 : 0 < m) (hE : E < 1099511627776) :
    Calls Tryz.prog 110 #[v, .int .i64 ((E : Int) - 1074)] w (RetFl w m E) := by
  obtain ⟨A, c, rfl, hc, hw⟩ := h
  have hl : 0 < wl m := by have := wl_eq_zero (x := m); omega
  have hl2 : wl m ≤ 2 := wl_le_two (by omega)
  obtain ⟨b, off, rfl, hb, hce⟩ := hw hl
  have hlt := lt_wl m
  have hn0 : ¬ ((wl m : Nat) : Int) = 0 := by omega
  generalize wl m = n at *
  have w1 : IntKind.i64.wrap ((n : Int) - 1) = (n : Int) - 1 := wrapS (by omega) (by omega)
  have hmn : m / 4294967296 ^ n = 0 := Nat.div_eq_of_lt hlt
  go_enter Tryz.func110, Tryz.ntmps110
  go_wp2_with fail
  go_loopw [5, 6] (fun v5 v6 wr => FlRel w m n v5 v6 wr) (fun _ v6 _ => (intOf v6 + 1).toNat)
  case atStart => exact ⟨n, rfl, Nat.le_refl _, by rw [hmn]; rfl, rfl⟩
  case round =>
    obtain ⟨j, rfl, hj, rfl, rfl⟩ := hrel
    by_cases hj0 : 0 < j
    · have hcell := hce (j - 1) (by omega)
      have hd := dg_lt m (j - 1)
      have hq : m / 4294967296 ^ j < 4294967296 := by
        have h1 : m / 4294967296 ^ j ≤ m / 4294967296 ^ 1 := Nat.div_le_div_left (Nat.pow_le_pow_right (by omega) hj0) (by omega)
        rw [Nat.pow_one] at h1
        omega
      have hor := shl_or hq hd
      rw [word_step hj0] at hor
      have hi : ((j : Int) - 1) = ((j - 1 : Nat) : Int) := by omega
      have w2 : IntKind.i64.wrap (((j - 1 : Nat) : Int) - 1) = ((j - 1 : Nat) : Int) - 1 := wrapS (by omega) (by omega)
      have hc0 : (0 : Int) ≤ ((j - 1 : Nat) : Int) := by omega
      have hc1 : ((j - 1 : Nat) : Int) < (n : Int) := by omega
      rw [hi]
      obtain ⟨i, hi2⟩ : ∃ i, j - 1 = i := ⟨_, rfl⟩
      rw [hi2] at hcell hd hor w2 hc0 hc1 ⊢
      generalize dg m i = dd at *
      have wcv : IntKind.u64.wrap (dd : Int) = (dd : Int) := by rw [IntKind.wrap_u64]; omega
      generalize m / 4294967296 ^ j = qq at *
      obtain ⟨M2, hM2⟩ : ∃ M2, m / 4294967296 ^ i = M2 := ⟨_, rfl⟩
      rw [hM2] at hor
      have HM2 := hid hM2
      clear hi hM2
      go_wp2
      go_roundw
      case rel => exact ⟨i, rfl, by omega, by rw [HM2.out], rfl⟩
      case measure => simp [intOf]
    · have hj1 : j = 0 := by omega
      subst hj1
      rw [Nat.pow_zero, Nat.div_one]
      clear hmn w1 hj hj0 hce hb hlt
      go_upto_region 8 with fail
      go_loopw [5, 1] (fun v5 v1 wr => FlRel2 w m E v5 v1 wr) (fun _ v1 _ => (intOf v1 + 1074).toNat)
      case atStart => exact ⟨m, E, rfl, rfl, rfl, hm, Nat.le_refl _, h0, rfl⟩
      case round =>
        obtain ⟨x, F, rfl, rfl, hx, hxm, hF, hx0, rfl⟩ := hrel
        by_cases hs : x < 4503599627370496 ∧ 0 < F
        · obtain ⟨hs1, hs2⟩ := hs
          obtain ⟨G, hG⟩ : ∃ G, F = G + 1 := ⟨F - 1, by omega⟩
          have c1 : decide ((x : Int) < 4503599627370496) = true := by rw [decide_eq_true_eq]; omega
          have c2 : decide ((-1074 : Int) < (F : Int) - 1074) = true := by rw [decide_eq_true_eq]; omega
          obtain ⟨y, hy⟩ : ∃ y, y = 2 * x := ⟨_, rfl⟩
          have w3 : IntKind.i64.wrap ((F : Int) - 1074 - 1) = (G : Int) - 1074 := by rw [wrapS (by omega) (by omega)]; omega
          have w4 : IntKind.u64.wrap ((x : Int) * 2) = (y : Int) := by rw [IntKind.wrap_u64]; omega
          have HR := hid (show FlRel2 w m E (.int .u64 (y : Int)) (.int .i64 ((G : Int) - 1074)) w from ⟨y, G, rfl, rfl, by rw [hy, ← hx, hG, Nat.pow_succ]; ac_rfl, by omega, by omega, by omega, rfl⟩)
          have HG := hid hG
          clear hx hG hy hs1 hs2 hxm hF hm hE hx0 h0
          go_wp2
          go_roundw
          case rel => exact HR.out
          case measure => have := HG.out; simp [intOf]; omega
        · have hfr := frombits_run
          have HR := hid (show ∀ b : Nat, b = fbits x F → RetFl w m E (.returned (.float .f64 b)) w from fun b hb => ⟨x, F, hx, by omega, hxm, hF, by rw [hb], rfl⟩)
          clear hx
          by_cases hs1 : x < 4503599627370496
          · have hF0 : F = 0 := by omega
            subst hF0
            have c1 : decide ((x : Int) < 4503599627370496) = true := by rw [decide_eq_true_eq]; omega
            have HB := hid (show x = fbits x 0 by unfold fbits; rw [if_neg (by omega)]; omega)
            clear hs hs1 hxm hF hm hE hx0 h0
            go_wp2
            go_ret
            exact HR.out _ HB.out
          · have c1 : decide ((x : Int) < 4503599627370496) = false := by rw [decide_eq_false_iff_not]; omega
            have w3 : IntKind.i64.wrap ((F : Int) - 1074 + 1075) = (F : Int) + 1 := by rw [wrapS (by omega) (by omega)]; omega
            by_cases hf : 2046 ≤ F
            · have c2 : decide ((2046 : Int) < (F : Int) + 1) = true := by rw [decide_eq_true_eq]; omega
              have HB := hid (show 9218868437227405312 = fbits x F by unfold fbits; rw [if_pos hf])
              clear hs hs1 hxm hF hm hE hx0 h0 hf
              go_wp2_with fail
              refine (inf_one _).mono ?_
              rintro e9 W9 ⟨rfl, rfl⟩
              go_wp2
              go_ret
              exact HR.out _ HB.out
            · have c2 : decide ((2046 : Int) < (F : Int) + 1) = false := by rw [decide_eq_false_iff_not]; omega
              obtain ⟨b, hb⟩ : ∃ b, b = F * 4503599627370496 + x := ⟨_, rfl⟩
              have HB := hid (show b = fbits x F by unfold fbits; rw [if_neg hf, hb])
              have a1 := fm_bits x (by omega)
              have a2 : fm x = x - 4503599627370496 := by unfold fm; omega
              obtain ⟨f, hff⟩ : ∃ f, f = fm x := ⟨_, rfl⟩
              obtain ⟨G, hG⟩ : ∃ G, G = F + 1 := ⟨_, rfl⟩
              have hG1 : (F : Int) + 1 = (G : Int) := by omega
              rw [hG1] at w3 c2
              have w4 : IntKind.u64.wrap (G : Int) = (G : Int) := by rw [IntKind.wrap_u64]; omega
              have w5 : IntKind.u64.wrap ((G : Int) * 4503599627370496) = (G : Int) * 4503599627370496 := by rw [IntKind.wrap_u64]; omega
              have a3 := shl_or52 (a := G) (d := f) (by omega) (by omega)
              rw [show G * 4503599627370496 + f = b by omega] at a3
              rw [← hff] at a1
              clear hs hs1 hxm hF hm hE hx0 h0 hf a2 hff hG hG1 hb
              go_wp2
              go_ret
              exact HR.out _ HB.out
structure Rnd (dg : Nat) (p : Nat) (lo : Int) (d way m2 t2 : Nat) : Prop where
  ex : ∃ m t, Spl dg lo p d m t ∧ t < 68719476736 ∧ m2 * 2 ^ t2 = (m + (if upR m (splR lo p d m t) (2 ^ t * d) (way : Int) then 1 else 0)) * 2 ^ t ∧ m2 < 2 ^ dg ∧ (t2 = 0 ∨ 2 ^ (dg - 1) ≤ m2) ∧ t2 ≤ t + 1
def NrB (dg : Nat) (lo top : Int) (a : Int) (d b : Nat) : Prop := (a = 0 ∧ b = 0) ∨ (a ≠ 0 ∧ ∃ m2 t2, Rnd dg a.natAbs lo d 2 m2 t2 ∧ ((m2 = 0 ∧ b = 0) ∨ (0 < m2 ∧ ∃ B, b = (if a < 0 then B + 9223372036854775808 else B) ∧ B < 9223372036854775808 ∧
  (if (bl m2 : Int) + (t2 + lo) ≤ top then ∃ m' E' : Nat, m' * 2 ^ E' = m2 * 2 ^ ((t2 : Int) + lo + 1074).toNat ∧ (E' = 0 ∨ 4503599627370496 ≤ m') ∧ m' < 9007199254740992 ∧ B = fbits m' E' else B = 9218868437227405312))))
theorem up2_cases {dg : Nat} {lo : Int} {p d m t last : Nat} {more : Bool} (h1 : last < 2) (h2 : decide (last = 1) = decide (2 ^ t * d ≤ 2 * splR lo p d m t)) (h3 : more = decide (2 * splR lo p d m t ≠ (if last = 1 then 2 ^ t * d else 0))) :
    upR m (splR lo p d m t) (2 ^ t * d) ((2 : Nat) : Int) = (decide (last = 1) && (more || decide (m % 2 = 1))) := by
  have hu : upR m (splR lo p d m t) (2 ^ t * d) ((2 : Nat) : Int) = (decide (2 ^ t * d < 2 * splR lo p d m t) || (decide (2 * splR lo p d m t = 2 ^ t * d) && decide (m % 2 = 1))) := rfl
  rw [hu, h3]
  generalize splR lo p d m t = R at *
  generalize 2 ^ t * d = V at *
  rw [decide_eq_decide] at h2
  rcases (show last = 0 ∨ last = 1 by omega) with rfl | rfl
  · have hn : ¬ V ≤ 2 * R := fun h => absurd (h2.2 h) (by decide)
    rw [decide_eq_false (show ¬ V < 2 * R by omega), decide_eq_false (show ¬ 2 * R = V by omega)]
    rfl
  · have hn : V ≤ 2 * R := h2.1 rfl
    rw [if_pos rfl, decide_eq_true rfl, Bool.true_and]
    by_cases e : 2 * R = V
    · have hne : decide (2 * R ≠ V) = false := by simp [e]
      rw [decide_eq_false (show ¬ V < 2 * R by omega), decide_eq_true e, hne]
      rfl
    · rw [decide_eq_true (show V < 2 * R by omega), decide_eq_true e]
      rfl
theorem neg_pos {B : Nat} (h : B < 9223372036854775808) : Op.negFloat .f64 B = B + 9223372036854775808 := by
  have : Op.negFloat .f64 B = B ^^^ 9223372036854775808 := rfl
  rw [this]
  have h1 := Nat.two_pow_add_eq_or_of_lt (i := 63) (b := B) (by simpa using h) 1
  have h2 : B ^^^ 9223372036854775808 = B ||| 9223372036854775808 := by
    apply Nat.eq_of_testBit_eq
    intro i
    rw [Nat.testBit_xor, Nat.testBit_or]
    by_cases hi : i = 63
    · subst hi
      have : B.testBit 63 = false := Nat.testBit_lt_two_pow (by simpa using h)
      rw [this]
      rfl
    · have : (9223372036854775808 : Nat).testBit i = false := by
        rw [show (9223372036854775808 : Nat) = 2 ^ 63 by decide +kernel, Nat.testBit_two_pow]
        simp; omega
      rw [this]
      simp
  rw [h2, Nat.or_comm]
  simp at h1
  omega
theorem fbits_lt {m E : Nat} (h : m < 9007199254740992) : fbits m E < 9223372036854775808 := by
  unfold fbits
  split <;> omega
theorem rnd_up {dg m t : Nat} (hdg : 1 ≤ dg) (hm : m < 2 ^ dg) (ht : t = 0 ∨ 2 ^ (dg - 1) ≤ m) : (dg < bl (m + 1) → (m + 1) / 2 * 2 ^ (t + 1) = (m + 1) * 2 ^ t ∧ (m + 1) / 2 < 2 ^ dg ∧ 2 ^ (dg - 1) ≤ (m + 1) / 2) ∧ (bl (m + 1) ≤ dg → m + 1 < 2 ^ dg ∧ (t = 0 ∨ 2 ^ (dg - 1) ≤ m + 1)) := by
  obtain ⟨g, rfl⟩ : ∃ g, dg = g + 1 := ⟨dg - 1, by omega⟩
  have e2 := Nat.pow_succ 2 g
  have hp := Nat.pow_pos (a := 2) (n := g) (by omega)
  constructor
  · intro h
    have h1 := lt_bl2 h
    have h2 : m + 1 = 2 ^ g * 2 := by omega
    rw [Nat.add_sub_cancel]
    refine ⟨?_, by omega, by omega⟩
    rw [h2, Nat.mul_div_cancel _ (by omega), Nat.pow_succ]
    ac_rfl
  · intro h
    refine ⟨bl_lt h, ?_⟩
    rcases ht with h | h
    · exact .inl h
    · right; omega
set_option maxHeartbeats 4000000 in
theorem rnear_any (v u : Value) (a : Int) (d dg : Nat) (lo top : Int) (w : World) (hv : IsRI w v a) (hu : IsNat w u d) (hd : 0 < d) (sp : wl a.natAbs < 268435456) (sd : wl d < 268435456) (hg1 : 24 ≤ dg) (hg2 : dg ≤ 53) (hl1 : -1074 ≤ lo) (hl2 : lo ≤ -149) (hc : -2000 < top) (hc2 : top < 2000) :
    Calls Tryz.prog 45 #[v, u, .int .i64 (dg : Int), .int .i64 lo, .int .i64 top] w fun e w' => ∃ b, e = .returned (.float .f64 b) ∧ NrB dg lo top a d b ∧ Below w.heap.size w w' := by
  obtain ⟨A1, n1, c1, rfl, hn1, hs1⟩ := hv.parts
  obtain ⟨A2, n2, c2, rfl, hn2⟩ := hu.ex
  obtain ⟨b0, hb0⟩ : ∃ b0, decide (a < 0) = b0 := ⟨_, rfl⟩
  rw [hb0]
  by_cases h0 : a = 0
  · have hz : n1 = 0 := by rw [hn1, h0]; exact wl_zero
    subst hz
    have HR := hid (show NrB dg lo top a d 0 from .inl ⟨h0, rfl⟩)
    clear hv hu hs1 hn1 hn2 hb0 h0
    go_enter Tryz.func45, Tryz.ntmps45
    go_wp2
    go_ret
    exact ⟨0, rfl, HR.out, bel⟩
  have hp : 0 < a.natAbs := by omega
  have hn0 : ¬ (n1 : Int) = 0 := by have := wl_eq_zero (x := a.natAbs); omega
  have HS := hid (fun W (hb : Below w.heap.size w W) => rsplit_any _ _ a.natAbs d dg lo W (hs1.below hb) (hu.below hb) hp hd sp sd hg1 hg2 hl1 hl2)
  have HB0 := hid hb0
  have HA0 := hid h0
  clear hv hu hs1 hn1 hn2 hb0 h0
  go_enter Tryz.func45, Tryz.ntmps45
  go_wp2_with fail
  refine (HS.out _ bel).mono ?_
  rintro e W2 ⟨r, m, t, last, more, rfl, hm, hspl, hl, hl1', hmore, ht, hb2⟩
  obtain ⟨A3, n3, c3, rfl, -⟩ := hm.ex
  obtain ⟨hcc, hff, hz⟩ := bcells hb2 (w.heap.size + 1) (by simp)
  have k0 : W2.cell? ⟨w.heap.size, 0, none⟩ = some (.bool b0) := (hcc _ 0 (by omega)).trans (by simp [go_sem])
  have hup := up2_cases (lo := lo) (p := a.natAbs) (d := d) (m := m) (t := t) (dg := dg) hl hl1' hmore
  have HUP := hid hup
  have HSP := hid hspl
  have HM := hid hm
  have HTT := hid ht
  have B2 := hid (below_trans (below_alloc _ _) hb2)
  clear hup hcc hff hspl hm ht hb2 hl1' hmore HS
  have hwm : wl m < 1099511627776 := by
    have h1 := HSP.out.hm
    have h2 : m < 2 ^ 53 := Nat.lt_of_lt_of_le h1 (Nat.pow_le_pow_right (by omega) hg2)
    have h3 : wl m ≤ 2 := wl_le_two (by rw [two53] at h2; omega)
    omega
  have hw3 : wl m ≤ 3 := by
    have h2 : m < 2 ^ 53 := Nat.lt_of_lt_of_le HSP.out.hm (Nat.pow_le_pow_right (by omega) hg2)
    have h3 : wl m ≤ 2 := wl_le_two (by rw [two53] at h2; omega)
    omega
  obtain ⟨up, hupe⟩ : ∃ up : Bool, (decide (last = 1) && (more || decide (m % 2 = 1))) = up := ⟨_, rfl⟩
  go_upto_region 4 with fail
  go_cut [40] from 31 to 39 (fun s wx => s = .bool up ∧ W2 = wx)
  case first =>
    rcases (show last = 0 ∨ last = 1 by omega) with rfl | rfl
    · have : up = false := by rw [← hupe]; rfl
      subst this
      go_wp2
      go_meet
      exact ⟨rfl, rfl⟩
    · cases more
      · go_wp2_with fail
        refine (rBit0_any _ m _ HM.out hwm).mono ?_
        rintro e9 W9 ⟨rfl, rfl⟩
        have hcmp : (((m % 2 : Nat) : Int) == 1) = up := by
          rw [← hupe, Bool.eq_iff_iff]
          simp
          omega
        go_wp2
        go_meet
        exact ⟨by rw [← hcmp, Int.natCast_emod]; rfl, rfl⟩
      · have : up = true := by rw [← hupe]; rfl
        subst this
        go_wp2
        go_meet
        exact ⟨rfl, rfl⟩
  case rest =>
  obtain ⟨rfl, rfl⟩ := hcut
  rw [hupe] at HUP
  clear hupe hl
  have hmlt := HSP.out.hm
  have hmt := HSP.out.ht
  have HR1 := hid (rnd_up (dg := dg) (m := m) (t := t) (by omega) hmlt hmt)
  have HM53 := hid (show m < 9007199254740992 by
    have h2 : m < 2 ^ 53 := Nat.lt_of_lt_of_le hmlt (Nat.pow_le_pow_right (by omega) hg2)
    rw [two53] at h2
    exact h2)
  have HRN := hid (show ∀ m2 t2, m2 * 2 ^ t2 = (m + (if up then 1 else 0)) * 2 ^ t → m2 < 2 ^ dg → (t2 = 0 ∨ 2 ^ (dg - 1) ≤ m2) → t2 ≤ t + 1 → Rnd dg a.natAbs lo d 2 m2 t2 from fun m2 t2 e1 e2 e3 e4 =>
    ⟨m, t, HSP.out, HTT.out, by rw [HUP.out]; exact e1, e2, e3, e4⟩)
  have hwrap : IntKind.i64.wrap ((t : Int) + lo + 1) = ((t + 1 : Nat) : Int) + lo := by have := HTT.out; rw [wrapS (by omega) (by omega)]; omega
  have HMLT := hid hmlt
  have HMT := hid hmt
  clear hmlt hmt HUP HSP
  go_upto_if 40 with fail
  go_cut [11, 12] from 41 to 51 (fun s11 s12 wx => ∃ m2 t2 : Nat, IsNat wx s11 m2 ∧ s12 = .int .i64 ((t2 : Int) + lo) ∧ Rnd dg a.natAbs lo d 2 m2 t2 ∧ t2 ≤ t + 1 ∧ wl m2 ≤ 3 ∧ Below W2.heap.size W2 wx)
  case first =>
    cases up
    · go_wp2
      go_meet
      exact ⟨m, t, HM.out, rfl, HRN.out m t (by simp) HMLT.out HMT.out (by omega), by omega, hw3, Below.refl _ _⟩
    · go_wp2_with fail
      refine (rNatAdd_any _ _ m 1 _ (HM.out.below (below_alloc _ _)) (one_nat W2) hwm (by rw [wl_one]; omega)).mono ?_
      rintro e9 W4 ⟨v5, rfl, h5, hb4⟩
      obtain ⟨A5, n5, c5, rfl, -⟩ := h5.ex
      have H5 := hid h5
      have B4 := hid (below_trans (below_alloc _ _) hb4)
      clear h5 hb4
      have hwa : wl (m + 1) ≤ 3 := by
        have h3 : wl (m + 1) ≤ 2 := wl_le_two (by have := HM53.out; omega)
        omega
      go_wp2_with fail
      refine (rBits_any _ (m + 1) _ H5.out (by omega)).mono ?_
      rintro e9 W9 ⟨rfl, rfl⟩
      by_cases hb : dg < bl (m + 1)
      · have hbi : (dg : Int) < (bl (m + 1) : Int) := by omega
        obtain ⟨r1, r2, r3⟩ := HR1.out.1 hb
        have HRD := hid (HRN.out ((m + 1) / 2) (t + 1) r1 r2 (.inr r3) (by omega))
        clear r1 r2 r3
        go_wp2_with fail
        refine (rNatShr_any _ (m + 1) 1 _ H5.out (by omega) (by omega)).mono ?_
        rintro e9 W6 ⟨v6, rfl, h6, hb6⟩
        obtain ⟨A6, n6, c6, rfl, -⟩ := h6.ex
        rw [Nat.pow_one] at h6
        have H6 := hid h6
        have B6 := hid (below_trans B4.out hb6)
        have hw6 : wl ((m + 1) / 2) ≤ 3 := Nat.le_trans (wl_mono (Nat.div_le_self _ _)) hwa
        clear h6 hb6
        go_wp2
        go_meet
        exact ⟨(m + 1) / 2, t + 1, H6.out, by first | rfl | (congr 1; omega), HRD.out, by omega, hw6, B6.out⟩
      · have hbi : ¬ (dg : Int) < (bl (m + 1) : Int) := by omega
        obtain ⟨r1, r2⟩ := HR1.out.2 (by omega)
        have HRD := hid (HRN.out (m + 1) t (by simp) r1 r2 (by omega))
        clear r1 r2
        go_wp2
        go_meet
        exact ⟨m + 1, t, H5.out, rfl, HRD.out, by omega, hwa, B4.out⟩
  case rest =>
  obtain ⟨m2, t2, h11, rfl, hrn, htt, hw2, hbw⟩ := hcut
  obtain ⟨A7, n7, c7, rfl, hn7⟩ := h11.ex
  obtain ⟨hcc, -, -⟩ := bcells hbw (w.heap.size + 1) hz
  replace k0 := (hcc _ 0 (by omega)).trans k0
  have B7 := hid (below_trans B2.out hbw)
  have H11 := hid h11
  have HRNN := hid hrn
  clear h11 hrn hbw hcc HR1 HRN hwrap HMLT HMT HM HM53 hw3 hwm B2
  by_cases hm0 : m2 = 0
  · have : n7 = 0 := by rw [hn7, hm0]; exact wl_zero
    subst this
    have HR := hid (show NrB dg lo top a d 0 from .inr ⟨HA0.out, m2, t2, HRNN.out, .inl ⟨hm0, rfl⟩⟩)
    clear hn7 hm0 HRNN
    go_wp2
    go_ret
    exact ⟨0, rfl, HR.out, B7.out⟩
  have hn7p : ¬ (n7 : Int) = 0 := by have := wl_eq_zero (x := m2); omega
  obtain ⟨E, hE⟩ : ∃ E : Nat, ((t2 : Int) + lo + 1074).toNat = E := ⟨_, rfl⟩
  have hE2 : (t2 : Int) + lo = (E : Int) - 1074 := by omega
  have hm53 : m2 < 9007199254740992 := by
    obtain ⟨m', t', -, -, -, h, -, -⟩ := HRNN.out.ex
    have h2 : m2 < 2 ^ 53 := Nat.lt_of_lt_of_le h (Nat.pow_le_pow_right (by omega) hg2)
    rw [two53] at h2
    exact h2
  have hbl := bl_wl m2
  have HF := rfloat_any _ m2 E wc H11.out hm53 (by omega) (by have := HTT.out; omega)
  rw [← hE2] at HF
  have HFF := hid HF
  have HRB := hid (show ∀ B, B < 9223372036854775808 → (if (bl m2 : Int) + (t2 + lo) ≤ top then ∃ m' E' : Nat, m' * 2 ^ E' = m2 * 2 ^ E ∧ (E' = 0 ∨ 4503599627370496 ≤ m') ∧ m' < 9007199254740992 ∧ B = fbits m' E' else B = 9218868437227405312) → NrB dg lo top a d (if a < 0 then B + 9223372036854775808 else B) from fun B h1 h2 =>
    .inr ⟨HA0.out, m2, t2, HRNN.out, .inr ⟨by omega, B, rfl, h1, by rw [hE]; exact h2⟩⟩)
  have wb : IntKind.i64.wrap ((bl m2 : Int) + ((t2 : Int) + lo)) = (bl m2 : Int) + ((t2 : Int) + lo) := by have := HTT.out; exact wrapS (by omega) (by omega)
  have hneg := neg_run
  clear HF hE hE2 hm53 hm0 hn7 HRNN HTT
  go_wp2_with fail
  refine (inf_one _).mono ?_
  rintro e9 W9 ⟨rfl, rfl⟩
  go_wp2_with fail
  refine (rBits_any _ m2 _ H11.out (by omega)).mono ?_
  rintro e9 W9 ⟨rfl, rfl⟩
  by_cases hle : (bl m2 : Int) + ((t2 : Int) + lo) ≤ top
  · go_wp2_with fail
    refine HFF.out.mono ?_
    rintro e9 W9 ⟨m', E', q1, q2, q3, -, rfl, rfl⟩
    have HR := HRB.out (fbits m' E') (fbits_lt q3) (by rw [if_pos hle]; exact ⟨m', E', q1, q2, q3, rfl⟩)
    have HNG := hid (neg_pos (fbits_lt (E := E') q3))
    have HR := hid HR
    clear q1 q2 q3 HRB HFF
    generalize fbits m' E' = B at *
    cases b0
    · have hna : ¬ a < 0 := of_decide_eq_false HB0.out
      rw [if_neg hna] at HR
      clear hna
      go_wp2
      go_ret
      exact ⟨B, rfl, HR.out, B7.out⟩
    · have hna : a < 0 := of_decide_eq_true HB0.out
      rw [if_pos hna, ← HNG.out] at HR
      clear hna
      go_wp2
      go_ret
      exact ⟨_, rfl, HR.out, B7.out⟩
  · have HR := HRB.out 9218868437227405312 (by omega) (by rw [if_neg hle])
    have HNG := hid (neg_pos (B := 9218868437227405312) (by omega))
    have HR := hid HR
    clear HRB HFF
    cases b0
    · have hna : ¬ a < 0 := of_decide_eq_false HB0.out
      rw [if_neg hna] at HR
      clear hna
      go_wp2
      go_ret
      exact ⟨_, rfl, HR.out, B7.out⟩
    · have hna : a < 0 := of_decide_eq_true HB0.out
      rw [if_pos hna, ← HNG.out] at HR
      clear hna
      go_wp2
      go_ret
      exact ⟨_, rfl, HR.out, B7.out⟩
end Go.Proofs.YtccldiokpgjocaaGreatDoor
