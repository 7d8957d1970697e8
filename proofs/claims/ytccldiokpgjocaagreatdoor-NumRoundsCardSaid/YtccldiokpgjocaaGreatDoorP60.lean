import Derived.Test.YtccldiokpgjocaaGreatDoorP38
import Derived.Test.YtccldiokpgjocaaGreatDoorP46
import Derived.Test.YtccldiokpgjocaaGreatDoorP50
import Derived.Test.YtccldiokpgjocaaGreatDoorP59
set_option linter.unusedSimpArgs false
set_option linter.unusedVariables false
namespace Go.Proofs.YtccldiokpgjocaaGreatDoor
open Go.RowKit
theorem cut_exact (neg : Bool) (m j : Nat) (h0 : 0 < m) : Ieee.Toward.even.cut neg (m * 2 ^ j) j = m := by
  have hp := Nat.pow_pos (a := 2) (n := j) (by omega)
  have hn : m * 2 ^ j ≠ 0 := by
    have := Nat.mul_pos h0 hp
    omega
  have hl : j ≤ (m * 2 ^ j).log2 := (Nat.le_log2 hn).2 (Nat.le_mul_of_pos_left _ h0)
  unfold Ieee.Toward.cut
  simp only
  rw [Nat.min_eq_left (by omega), Nat.one_shiftLeft, Nat.mul_mod_left, Nat.mul_div_cancel _ hp]
  have e : (2 ^ j == 2 * 0) = false := by rw [beq_eq_false_iff_ne]; omega
  rw [e]
  simp
theorem log_norm {m : Nat} (h1 : 4503599627370496 ≤ m) (h2 : m < 9007199254740992) : m.log2 = 52 := by
  have a := (Nat.le_log2 (n := m) (k := 52) (by omega)).2 (by simpa using h1)
  have b := (Nat.log2_lt (n := m) (k := 53) (by omega)).2 (by simpa using h2)
  omega
theorem single_word (s : Bool) {m2 t2 m' E' : Nat} (h0 : 0 < m2) (h1 : m2 < 16777216) (h2 : t2 = 0 ∨ 8388608 ≤ m2) (he : m' * 2 ^ E' = m2 * 2 ^ (t2 + 925)) (h3 : E' = 0 ∨ 4503599627370496 ≤ m') (h4 : m' < 9007199254740992) (ht : t2 ≤ 253) :
    4503599627370496 ≤ m' ∧ E' ≤ 1178 ∧ Ieee.single.write (.number s m' ((E' : Int) - 1074)) = (if s then 2147483648 else 0) + (t2 * 8388608 + m2) := by
  -- m2, made long
  obtain ⟨b0, b1, b2⟩ := bl_pow h0
  have hb24 : bl m2 ≤ 24 := bl_le (by simpa using h1)
  have hb24' : 0 < t2 → bl m2 = 24 := fun hp => by
    have := (bl_between (n := 23) (m := 24) (x := m2) (by have : 8388608 ≤ m2 := by omega
                                                          simpa using this) (by simpa using h1)).1
    omega
  obtain ⟨j, hj⟩ : ∃ j, j + bl m2 = 53 := ⟨53 - bl m2, by omega⟩
  have k1 : 4503599627370496 ≤ m2 * 2 ^ j := by
    have : 2 ^ (bl m2 - 1) * 2 ^ j ≤ m2 * 2 ^ j := Nat.mul_le_mul_right _ b1
    rw [← Nat.pow_add, show bl m2 - 1 + j = 52 by omega] at this
    simpa using this
  have k2 : m2 * 2 ^ j < 9007199254740992 := by
    have : m2 * 2 ^ j < 2 ^ bl m2 * 2 ^ j := Nat.mul_lt_mul_of_pos_right b2 (Nat.pow_pos (by omega))
    rw [← Nat.pow_add, show bl m2 + j = 53 by omega] at this
    simpa using this
  obtain ⟨F, hF⟩ : ∃ F, F + j = t2 + 925 := ⟨t2 + 925 - j, by omega⟩
  obtain ⟨rfl, rfl⟩ := norm_uniq (g := 53) (m' := m2 * 2 ^ j) (t' := F) (by omega) (by rw [he, ← hF, Nat.pow_add]; ac_rfl) (by rw [two53]; exact h4) (by rw [two53]; exact k2) (by rw [two52]; exact h3) (by rw [two52]; exact .inr k1)
  refine ⟨k1, by omega, ?_⟩
  have e1 : Ieee.single.signWeight = 2147483648 := by decide
  have e2 : Ieee.single.binade = 8388608 := by decide
  have e3 : Ieee.single.infRung = 2139095040 := by decide +kernel
  have e4 : Ieee.single.leastPlace = -149 := by decide +kernel
  have e5 : Ieee.single.fractionBits = 23 := rfl
  show Ieee.single.nearest s _ _ = _
  unfold Ieee.Format.nearest
  rw [if_neg (by omega)]
  simp only [e2, e3, e4, e5]
  rw [log_norm k1 k2]
  have hlast : max ((E' : Int) - 1074 + ((52 : Nat) : Int) - ((23 : Nat) : Int)) (-149) = (t2 : Int) - 149 := by
    rcases Nat.eq_zero_or_pos t2 with h | h
    · omega
    · have := hb24' h; omega
  rw [hlast]
  have hA : ((E' : Int) - 1074 - ((t2 : Int) - 149)).toNat = 0 := by omega
  have hB : ((t2 : Int) - 149 - ((E' : Int) - 1074)).toNat = j := by omega
  have hC : ((t2 : Int) - 149 - -149).toNat = t2 := by omega
  rw [hA, hB, hC, Nat.shiftLeft_zero, cut_exact s m2 j h0]
  unfold Ieee.Format.word
  rw [e1, Nat.min_eq_left (by omega)]
  cases s <;> simp
theorem two23 : (2 : Nat) ^ (24 - 1) = 8388608 := by decide +kernel
theorem two24 : (2 : Nat) ^ 24 = 16777216 := by decide +kernel
theorem infB_single : infB 24 (-149) 104 = 2139095040 := by decide +kernel
theorem rnd_bits32 {p d m2 t2 : Nat} (hp : 0 < p) (hd : 0 < d) (h : Rnd 24 p (-149) d 2 m2 t2) :
    ((bl m2 : Int) + ((t2 : Int) + (-149)) ≤ 128 → t2 ≤ 253 ∧ rdF 24 (-149) 104 p d 2 = t2 * 8388608 + m2) ∧ (128 < (bl m2 : Int) + ((t2 : Int) + (-149)) → rdF 24 (-149) 104 p d 2 = 2139095040) := by
  obtain ⟨m, t, hs, -, he, h1, h2, -⟩ := h.ex
  obtain ⟨m0, t0, hs0, hr⟩ := rdF_spl (hi := 104) Fm.single hp hd
  obtain ⟨rfl, rfl⟩ := Spl.uniq (by omega) hs hs0 hd
  have hrw := hr 2
  rw [two23] at hrw
  have hmlt := hs.hm
  have hmt := hs.ht
  have hcase := rnd_cases (dg := 24) (by omega) hmlt hmt (u := if upR m (splR (-149) p d m t) (2 ^ t * d) ((2 : Nat) : Int) then 1 else 0) (by split <;> omega) he h1 h2
  rw [show ((2 : Nat) : Int) = 2 from rfl] at hcase
  rw [two24] at hmlt h1 hcase
  rw [two23] at hmt h2 hcase
  generalize (if upR m (splR (-149) p d m t) (2 ^ t * d) 2 then 1 else 0) = u at *
  have hov : ovB 24 (-149) 104 2 = 2139095040 := by
    unfold ovB
    rw [if_neg (by decide), infB_single]
  have hbl : bl m2 ≤ 24 := bl_le (by simpa using h1)
  have hblf : 0 < t2 → bl m2 = 24 := fun hpos => by
    have := (bl_between (n := 23) (m := 24) (x := m2) (by have : 8388608 ≤ m2 := by omega
                                                          simpa using this) (by simpa using h1)).1
    omega
  constructor
  · intro hle
    have ht2 : t2 ≤ 253 := by
      rcases Nat.eq_zero_or_pos t2 with h | h
      · omega
      · have := hblf h; omega
    rw [if_neg (by omega)] at hrw
    exact ⟨ht2, by rw [hrw]; omega⟩
  · intro hgt
    have ht2 : 254 ≤ t2 := by
      rcases Nat.eq_zero_or_pos t2 with h | h
      · omega
      · have := hblf h; omega
    by_cases c : (104 : Int) - (-149) < (t : Int)
    · rw [if_pos c] at hrw
      rw [hrw]
      exact hov
    · rw [if_neg c] at hrw
      rw [hrw]
      omega
theorem read_sign {B : Nat} {m' E' : Nat} (hn : Bool) (h1 : 4503599627370496 ≤ m') (h2 : m' < 9007199254740992) (hE : E' ≤ 1178) (hB : B = (if hn then E' * 4503599627370496 + m' + 9223372036854775808 else E' * 4503599627370496 + m')) :
    Ieee.double.read B = .number hn m' ((E' : Int) - 1074) := by
  have hf : fx B = E' + 1 ∧ fm B = m' - 4503599627370496 ∧ fneg B = hn ∧ B < 18446744073709551616 := by
    unfold fx fm fneg
    cases hn
    · simp only [Bool.false_eq_true, if_false] at hB
      refine ⟨by omega, by omega, decide_eq_false (by omega), by omega⟩
    · simp only [if_true] at hB
      refine ⟨by omega, by omega, decide_eq_true (by omega), by omega⟩
  rw [read_fin hf.2.2.2 (by omega), hf.2.2.1]
  have e1 : fmag B = m' := by unfold fmag; rw [hf.1, hf.2.1, if_neg (by omega)]; omega
  have e2 : fup B = E' := by unfold fup; omega
  rw [e1, e2]
theorem conv_single {P : Program} {W : World} {a : Int} {d b : Nat} (hd : 0 < d) (h : NrB 24 (-149) 128 a d b) : (Conv.floatToFloat .f64 b .f32).run P W = .ok (.float .f32 (nearB32 a d)) W := by
  unfold nearB32
  rcases h with ⟨rfl, rfl⟩ | ⟨h0, m2, t2, hr, hb⟩
  · have hz : flt32 (rdF 24 (-149) 104 (0 : Int).natAbs d 2) (decide ((0 : Int) < 0)) = 0 := by simp [rdF, flt32]
    rw [hz]
    rfl
  · obtain ⟨k1, k2⟩ := rnd_bits32 (by omega) hd hr
    obtain ⟨m, t, -, -, -, h1, h2, -⟩ := hr.ex
    rw [two24] at h1
    rw [two23] at h2
    rcases hb with ⟨hm0, rfl⟩ | ⟨hm0, B, hbB, hB, hif⟩
    · subst hm0
      have ht : t2 = 0 := by omega
      subst ht
      obtain ⟨-, k1⟩ := k1 (by rw [show bl 0 = 0 from rfl]; omega)
      rw [k1]
      have hz : flt32 (0 * 8388608 + 0) (decide (a < 0)) = 0 := by simp [flt32]
      rw [hz]
      rfl
    · split at hif
      · rename_i c
        obtain ⟨ht, k1⟩ := k1 (by omega)
        obtain ⟨m', E', q1, q2, q3, q4⟩ := hif
        rw [show ((t2 : Int) + -149 + 1074).toNat = t2 + 925 by omega] at q1
        obtain ⟨r1, r2, -⟩ := single_word false hm0 h1 h2 q1 q2 q3 ht
        have hBv : B = E' * 4503599627370496 + m' := by rw [q4]; unfold fbits; rw [if_neg (by omega)]
        have hrd := read_sign (B := b) (decide (a < 0)) r1 q3 r2 (by rw [hbB, hBv]; by_cases hn : a < 0 <;> simp [hn])
        obtain ⟨-, -, r3⟩ := single_word (decide (a < 0)) hm0 h1 h2 q1 q2 q3 ht
        have hfl : (if decide (a < 0) then 2147483648 else 0) + (t2 * 8388608 + m2) = flt32 (t2 * 8388608 + m2) (decide (a < 0)) := by
          unfold flt32
          by_cases hn : a < 0
          · rw [decide_eq_true hn, if_pos rfl, Bool.true_and, decide_eq_true (by omega), if_pos rfl, or_31 (by omega)]
            omega
          · rw [decide_eq_false hn]
            simp
        rw [k1, ← hfl, ← r3]
        unfold Conv.floatToFloat
        rw [if_neg (by decide), show FloatKind.f64.decode b = .number (decide (a < 0)) m' ((E' : Int) - 1074) from hrd]
        have hc : FloatKind.f32.encode (.number (decide (a < 0)) m' ((E' : Int) - 1074)) = Ieee.single.write (.number (decide (a < 0)) m' ((E' : Int) - 1074)) := rfl
        simp only [hc]
        have hnd : (FloatKind.f32.decode (Ieee.single.write (.number (decide (a < 0)) m' ((E' : Int) - 1074)))).isInfinity = false := by
          rw [r3]
          have hg : gx ((if decide (a < 0) then 2147483648 else 0) + (t2 * 8388608 + m2)) ≠ 255 := by
            unfold gx
            split <;> omega
          rw [show FloatKind.f32.decode ((if decide (a < 0) then 2147483648 else 0) + (t2 * 8388608 + m2)) = _ from read_fin32 (by split <;> omega) hg]
          rfl
        rw [hnd]
        rfl
      · rename_i c
        rw [k2 (by omega)]
        by_cases hn : a < 0
        · rw [if_pos hn, hif] at hbB
          rw [hbB, decide_eq_true hn]
          rfl
        · rw [if_neg hn, hif] at hbB
          rw [hbB, decide_eq_false hn]
          rfl
end Go.Proofs.YtccldiokpgjocaaGreatDoor
set_option linter.unusedSimpArgs false
set_option linter.unusedVariables false
namespace Go.Proofs.YtccldiokpgjocaaGreatDoor
open Go.RowKit
set_option maxRecDepth 100000
theorem conv_run32 {a : Int} {d b : Nat} (W : World) (hd : 0 < d) (h : NrB 24 (-149) 128 a d b) : (convert 44 47 (.float .f64 b)).run Tryz.prog W = .ok (.float .f32 (nearB32 a d)) W := by
  have e : (convert 44 47 (.float .f64 b)).run Tryz.prog W = (Conv.floatToFloat .f64 b .f32).run Tryz.prog W := by simp [convert, go_sem]
  rw [e]
  exact conv_single hd h
set_option maxHeartbeats 2000000 in
theorem rNear_any (v : Value) (x : Cx) (a b : Int) (d : Nat) (w : World) (h : IsQ w v x) (hl : Low x a b d) (sa : wl a.natAbs < 268435456) (sb : wl b.natAbs < 268435456) (sd : wl d < 268435456) :
    Calls Tryz.prog 9 #[v] w fun e w' => e = .returned (.complex .f64 (nearB a d) (nearB b d)) ∧ Below w.heap.size w w' := by
  have hd := hl.pos
  obtain ⟨A1, n1, c1, p1, A1b, n1b, c1b, p1b, A1c, n1c, c1c, a1, b1, d1, rfl, hl1, hr1, hi1, hs1, hn1, hm1, hd1, hp1, hq1, hs2, hs3⟩ := h.parts
  obtain ⟨rfl, rfl, rfl⟩ := hl.uniq hl1
  have HNa := hid (fun W (hb : Below w.heap.size w W) => (rnear_any _ _ a d 53 (-1074) 1024 W (hr1.below hb) (hs1.below hb) hd (by omega) sd (by omega) (by omega) (by omega) (by omega) (by omega) (by omega)).mono (R' := fun e w' => e = .returned (.float .f64 (nearB a d)) ∧ Below W.heap.size W w') fun e w' ⟨b9, h1, h2, h3⟩ => ⟨by rw [h1, near_double hd h2], h3⟩)
  have HNb := hid (fun W (hb : Below w.heap.size w W) => (rnear_any _ _ b d 53 (-1074) 1024 W (hi1.below hb) (hs1.below hb) hd (by omega) sd (by omega) (by omega) (by omega) (by omega) (by omega) (by omega)).mono (R' := fun e w' => e = .returned (.float .f64 (nearB b d)) ∧ Below W.heap.size W w') fun e w' ⟨b9, h1, h2, h3⟩ => ⟨by rw [h1, near_double hd h2], h3⟩)
  clear h hl sa sb sd hl1 hr1 hi1 hs1 hn1 hm1 hd1 hp1 hq1 hs2 hs3
  obtain ⟨nx, hnx⟩ : ∃ nx, nearB a d = nx := ⟨_, rfl⟩
  obtain ⟨ny, hny⟩ : ∃ ny, nearB b d = ny := ⟨_, rfl⟩
  rw [hnx] at HNa ⊢
  rw [hny] at HNb ⊢
  clear hnx hny
  go_enter Tryz.func9, Tryz.ntmps9
  go_upto_region 1 with fail
  obtain ⟨W1, hW1⟩ : ∃ W1 : World, W1 = w.alloc (.cells #[.bool p1, .slice A1 n1 c1, .bool p1b, .slice A1b n1b c1b, .slice A1c n1c c1c] 34) := ⟨_, rfl⟩
  rw [← hW1]
  have B : Below w.heap.size w W1 := by rw [hW1]; exact below_alloc _ _
  have X0 : W1.heap[w.heap.size]? = some (.cells #[.bool p1, .slice A1 n1 c1, .bool p1b, .slice A1b n1b c1b, .slice A1c n1c c1c] 34 (0, 0)) := by rw [hW1]; exact heap_alloc_new _ _
  have z0 : w.heap.size < W1.heap.size := by rw [hW1]; simp
  clear hW1
  refine region_lin [.val (kIs (.pointer (some ⟨w.heap.size, 0, none⟩))), .val (kIs (.agg #[.bool p1, .slice A1 n1 c1])), .val (kIs (.pointer (some ⟨w.heap.size, 4, none⟩))), .val (kIs (.slice A1c n1c c1c)), .val (kIs (.float .f64 (nx))), .val (kIs (.pointer (some ⟨w.heap.size, 2, none⟩))), .val (kIs (.agg #[.bool p1b, .slice A1b n1b c1b])), .val (kIs (.pointer (some ⟨w.heap.size, 4, none⟩))), .val (kIs (.slice A1c n1c c1c)), .val (kIs (.float .f64 (ny))), .val (kIs (.complex .f64 (nx) (ny))), .val (kIs (.complex .f64 (nx) (ny)))]
    (by kernel_rfl) (by kernel_rfl) (by kernel_rfl) (by kernel_rfl) (by kernel_rfl) ⟨Stab.b (stab_is _), Stab.b (stab_is _), Stab.b (stab_is _), Stab.b (stab_is _), Stab.b (stab_is _), Stab.b (stab_is _), Stab.b (stab_is _), Stab.b (stab_is _), Stab.b (stab_is _), Stab.b (stab_is _), Stab.b (stab_is _), Stab.b (stab_is _), trivial⟩ (by simp) ⟨?_, ?_, ?_, ?_, ?_, ?_, ?_, ?_, ?_, ?_, ?_, ?_, trivial⟩ ?_
  · exact obp
  · intro ts W hb hB hp; have h0 : ts 0 = _ := hp 0 (by kernel_rfl); intro K hK; simp only [fillT, Nat.zero_add, Nat.reduceAdd, sA, sB, sC, h0] at hK ⊢; have HK := hid hK; clear hK hp; obtain ⟨f0, f1, f2, f3, f4, -, -, -, -, -⟩ := bx5 ((hb.block _ z0).trans X0); refine ⟨?_⟩; go_simp; exact HK.out _ _ rfl rfB
  · exact obp
  · intro ts W hb hB hp; have h2 : ts 2 = _ := hp 2 (by kernel_rfl); intro K hK; simp only [fillT, Nat.zero_add, Nat.reduceAdd, sA, sB, sC, h2] at hK ⊢; have HK := hid hK; clear hK hp; obtain ⟨f0, f1, f2, f3, f4, -, -, -, -, -⟩ := bx5 ((hb.block _ z0).trans X0); refine ⟨?_⟩; go_simp; exact HK.out _ _ rfl rfB
  · intro ts W hb hB hp; have h1 : ts 1 = _ := hp 1 (by kernel_rfl); have h3 : ts 3 = _ := hp 3 (by kernel_rfl); intro K hK; simp only [fillT, Nat.zero_add, Nat.reduceAdd, sA, sB, sC, h1, h3] at hK ⊢; have HK := hid hK; clear hK hp; refine ⟨?_⟩; go_simp; refine (HNa.out W (below_trans B hb)).mono ?_; rintro e W9 ⟨rfl, hb9⟩; exact HK.out _ _ rfl hb9
  · exact obp
  · intro ts W hb hB hp; have h5 : ts 5 = _ := hp 5 (by kernel_rfl); intro K hK; simp only [fillT, Nat.zero_add, Nat.reduceAdd, sA, sB, sC, h5] at hK ⊢; have HK := hid hK; clear hK hp; obtain ⟨f0, f1, f2, f3, f4, -, -, -, -, -⟩ := bx5 ((hb.block _ z0).trans X0); refine ⟨?_⟩; go_simp; exact HK.out _ _ rfl rfB
  · exact obp
  · intro ts W hb hB hp; have h7 : ts 7 = _ := hp 7 (by kernel_rfl); intro K hK; simp only [fillT, Nat.zero_add, Nat.reduceAdd, sA, sB, sC, h7] at hK ⊢; have HK := hid hK; clear hK hp; obtain ⟨f0, f1, f2, f3, f4, -, -, -, -, -⟩ := bx5 ((hb.block _ z0).trans X0); refine ⟨?_⟩; go_simp; exact HK.out _ _ rfl rfB
  · intro ts W hb hB hp; have h6 : ts 6 = _ := hp 6 (by kernel_rfl); have h8 : ts 8 = _ := hp 8 (by kernel_rfl); intro K hK; simp only [fillT, Nat.zero_add, Nat.reduceAdd, sA, sB, sC, h6, h8] at hK ⊢; have HK := hid hK; clear hK hp; refine ⟨?_⟩; go_simp; refine (HNb.out W (below_trans B hb)).mono ?_; rintro e W9 ⟨rfl, hb9⟩; exact HK.out _ _ rfl hb9
  · intro ts W hb hB hp; have h4 : ts 4 = _ := hp 4 (by kernel_rfl); have h9 : ts 9 = _ := hp 9 (by kernel_rfl); intro K hK; simp only [fillT, Nat.zero_add, Nat.reduceAdd, sA, sB, sC, h4, h9] at hK ⊢; have HK := hid hK; clear hK hp; refine ⟨?_⟩; go_simp; exact HK.out _ _ rfl rfB
  · intro ts W hb hB hp; have h10 : ts 10 = _ := hp 10 (by kernel_rfl); intro K hK; simp only [fillT, Nat.zero_add, Nat.reduceAdd, sA, sB, sC, h10] at hK ⊢; have HK := hid hK; clear hK hp; refine ⟨?_⟩; go_simp; exact HK.out _ _ rfl rfB
  intro ts W2 hb2 hh hap
  have e11 := held_is (hh 11 (by simp)) rfl
  simp only [fillT, Nat.zero_add, Nat.reduceAdd, sA, sB, sC, e11]
  clear hh hap e11
  generalize ts 0 = u0_W2 at *
  generalize ts 1 = u1_W2 at *
  generalize ts 2 = u2_W2 at *
  generalize ts 3 = u3_W2 at *
  generalize ts 4 = u4_W2 at *
  generalize ts 5 = u5_W2 at *
  generalize ts 6 = u6_W2 at *
  generalize ts 7 = u7_W2 at *
  generalize ts 8 = u8_W2 at *
  generalize ts 9 = u9_W2 at *
  generalize ts 10 = u10_W2 at *
  clear ts
  go_wp2
  go_ret
  exact ⟨rfl, below_trans B hb2⟩
set_option maxHeartbeats 2000000 in
theorem rNear64_any (v : Value) (x : Cx) (a b : Int) (d : Nat) (w : World) (h : IsQ w v x) (hl : Low x a b d) (sa : wl a.natAbs < 268435456) (sb : wl b.natAbs < 268435456) (sd : wl d < 268435456) :
    Calls Tryz.prog 11 #[v] w fun e w' => e = .returned (.complex .f32 (nearB32 a d) (nearB32 b d)) ∧ Below w.heap.size w w' := by
  have hd := hl.pos
  obtain ⟨A1, n1, c1, p1, A1b, n1b, c1b, p1b, A1c, n1c, c1c, a1, b1, d1, rfl, hl1, hr1, hi1, hs1, hn1, hm1, hd1, hp1, hq1, hs2, hs3⟩ := h.parts
  obtain ⟨rfl, rfl, rfl⟩ := hl.uniq hl1
  have HNa := hid (fun W (hb : Below w.heap.size w W) => rnear_any _ _ a d 24 (-149) 128 W (hr1.below hb) (hs1.below hb) hd (by omega) sd (by omega) (by omega) (by omega) (by omega) (by omega) (by omega))
  have HNb := hid (fun W (hb : Below w.heap.size w W) => rnear_any _ _ b d 24 (-149) 128 W (hi1.below hb) (hs1.below hb) hd (by omega) sd (by omega) (by omega) (by omega) (by omega) (by omega) (by omega))
  clear h hl sa sb sd hl1 hr1 hi1 hs1 hn1 hm1 hd1 hp1 hq1 hs2 hs3
  go_enter Tryz.func11, Tryz.ntmps11
  go_upto_region 1 with fail
  obtain ⟨W1, hW1⟩ : ∃ W1 : World, W1 = w.alloc (.cells #[.bool p1, .slice A1 n1 c1, .bool p1b, .slice A1b n1b c1b, .slice A1c n1c c1c] 34) := ⟨_, rfl⟩
  rw [← hW1]
  have B : Below w.heap.size w W1 := by rw [hW1]; exact below_alloc _ _
  have X0 : W1.heap[w.heap.size]? = some (.cells #[.bool p1, .slice A1 n1 c1, .bool p1b, .slice A1b n1b c1b, .slice A1c n1c c1c] 34 (0, 0)) := by rw [hW1]; exact heap_alloc_new _ _
  have z0 : w.heap.size < W1.heap.size := by rw [hW1]; simp
  clear hW1
  refine region_lin [.val (kIs (.pointer (some ⟨w.heap.size, 0, none⟩))), .val (kIs (.agg #[.bool p1, .slice A1 n1 c1])), .val (kIs (.pointer (some ⟨w.heap.size, 4, none⟩))), .val (kIs (.slice A1c n1c c1c)), .val ((fun v _ => ∃ q, v = .float .f64 q ∧ NrB 24 (-149) 128 a d q)), .val (kIs (.float .f32 (nearB32 a d))), .val (kIs (.pointer (some ⟨w.heap.size, 2, none⟩))), .val (kIs (.agg #[.bool p1b, .slice A1b n1b c1b])), .val (kIs (.pointer (some ⟨w.heap.size, 4, none⟩))), .val (kIs (.slice A1c n1c c1c)), .val ((fun v _ => ∃ q, v = .float .f64 q ∧ NrB 24 (-149) 128 b d q)), .val (kIs (.float .f32 (nearB32 b d))), .val (kIs (.complex .f32 (nearB32 a d) (nearB32 b d))), .val (kIs (.complex .f32 (nearB32 a d) (nearB32 b d)))]
    (by kernel_rfl) (by kernel_rfl) (by kernel_rfl) (by kernel_rfl) (by kernel_rfl) ⟨Stab.b (stab_is _), Stab.b (stab_is _), Stab.b (stab_is _), Stab.b (stab_is _), (fun _ _ _ _ h => h), Stab.b (stab_is _), Stab.b (stab_is _), Stab.b (stab_is _), Stab.b (stab_is _), Stab.b (stab_is _), (fun _ _ _ _ h => h), Stab.b (stab_is _), Stab.b (stab_is _), Stab.b (stab_is _), trivial⟩ (by simp) ⟨?_, ?_, ?_, ?_, ?_, ?_, ?_, ?_, ?_, ?_, ?_, ?_, ?_, ?_, trivial⟩ ?_
  · exact obp
  · intro ts W hb hB hp; have h0 : ts 0 = _ := hp 0 (by kernel_rfl); intro K hK; simp only [fillT, Nat.zero_add, Nat.reduceAdd, sA, sB, sC, h0] at hK ⊢; have HK := hid hK; clear hK hp; obtain ⟨f0, f1, f2, f3, f4, -, -, -, -, -⟩ := bx5 ((hb.block _ z0).trans X0); refine ⟨?_⟩; go_simp; exact HK.out _ _ rfl rfB
  · exact obp
  · intro ts W hb hB hp; have h2 : ts 2 = _ := hp 2 (by kernel_rfl); intro K hK; simp only [fillT, Nat.zero_add, Nat.reduceAdd, sA, sB, sC, h2] at hK ⊢; have HK := hid hK; clear hK hp; obtain ⟨f0, f1, f2, f3, f4, -, -, -, -, -⟩ := bx5 ((hb.block _ z0).trans X0); refine ⟨?_⟩; go_simp; exact HK.out _ _ rfl rfB
  · intro ts W hb hB hp; have h1 : ts 1 = _ := hp 1 (by kernel_rfl); have h3 : ts 3 = _ := hp 3 (by kernel_rfl); intro K hK; simp only [fillT, Nat.zero_add, Nat.reduceAdd, sA, sB, sC, h1, h3] at hK ⊢; have HK := hid hK; clear hK hp; refine ⟨?_⟩; go_simp; refine (HNa.out W (below_trans B hb)).mono ?_; rintro e W9 ⟨b9, rfl, hb9, hbw9⟩; exact HK.out _ _ ⟨b9, rfl, hb9⟩ hbw9
  · intro ts W hb hB hp; have h4 := hp 4 (by kernel_rfl); intro K hK; obtain ⟨b9, e4, hnr⟩ := h4; have hcv := fun W => conv_run32 W hd hnr; simp only [fillT, Nat.zero_add, Nat.reduceAdd, sA, sB, sC, e4] at hK ⊢; have HK := hid hK; clear hK hp; refine ⟨?_⟩; go_simp; exact HK.out _ _ rfl rfB
  · exact obp
  · intro ts W hb hB hp; have h6 : ts 6 = _ := hp 6 (by kernel_rfl); intro K hK; simp only [fillT, Nat.zero_add, Nat.reduceAdd, sA, sB, sC, h6] at hK ⊢; have HK := hid hK; clear hK hp; obtain ⟨f0, f1, f2, f3, f4, -, -, -, -, -⟩ := bx5 ((hb.block _ z0).trans X0); refine ⟨?_⟩; go_simp; exact HK.out _ _ rfl rfB
  · exact obp
  · intro ts W hb hB hp; have h8 : ts 8 = _ := hp 8 (by kernel_rfl); intro K hK; simp only [fillT, Nat.zero_add, Nat.reduceAdd, sA, sB, sC, h8] at hK ⊢; have HK := hid hK; clear hK hp; obtain ⟨f0, f1, f2, f3, f4, -, -, -, -, -⟩ := bx5 ((hb.block _ z0).trans X0); refine ⟨?_⟩; go_simp; exact HK.out _ _ rfl rfB
  · intro ts W hb hB hp; have h7 : ts 7 = _ := hp 7 (by kernel_rfl); have h9 : ts 9 = _ := hp 9 (by kernel_rfl); intro K hK; simp only [fillT, Nat.zero_add, Nat.reduceAdd, sA, sB, sC, h7, h9] at hK ⊢; have HK := hid hK; clear hK hp; refine ⟨?_⟩; go_simp; refine (HNb.out W (below_trans B hb)).mono ?_; rintro e W9 ⟨b9, rfl, hb9, hbw9⟩; exact HK.out _ _ ⟨b9, rfl, hb9⟩ hbw9
  · intro ts W hb hB hp; have h10 := hp 10 (by kernel_rfl); intro K hK; obtain ⟨b9, e10, hnr⟩ := h10; have hcv := fun W => conv_run32 W hd hnr; simp only [fillT, Nat.zero_add, Nat.reduceAdd, sA, sB, sC, e10] at hK ⊢; have HK := hid hK; clear hK hp; refine ⟨?_⟩; go_simp; exact HK.out _ _ rfl rfB
  · intro ts W hb hB hp; have h5 : ts 5 = _ := hp 5 (by kernel_rfl); have h11 : ts 11 = _ := hp 11 (by kernel_rfl); intro K hK; simp only [fillT, Nat.zero_add, Nat.reduceAdd, sA, sB, sC, h5, h11] at hK ⊢; have HK := hid hK; clear hK hp; refine ⟨?_⟩; go_simp; exact HK.out _ _ rfl rfB
  · intro ts W hb hB hp; have h12 : ts 12 = _ := hp 12 (by kernel_rfl); intro K hK; simp only [fillT, Nat.zero_add, Nat.reduceAdd, sA, sB, sC, h12] at hK ⊢; have HK := hid hK; clear hK hp; refine ⟨?_⟩; go_simp; exact HK.out _ _ rfl rfB
  intro ts W2 hb2 hh hap
  have e13 := held_is (hh 13 (by simp)) rfl
  simp only [fillT, Nat.zero_add, Nat.reduceAdd, sA, sB, sC, e13]
  clear hh hap e13
  generalize ts 0 = u0_W2 at *
  generalize ts 1 = u1_W2 at *
  generalize ts 2 = u2_W2 at *
  generalize ts 3 = u3_W2 at *
  generalize ts 4 = u4_W2 at *
  generalize ts 5 = u5_W2 at *
  generalize ts 6 = u6_W2 at *
  generalize ts 7 = u7_W2 at *
  generalize ts 8 = u8_W2 at *
  generalize ts 9 = u9_W2 at *
  generalize ts 10 = u10_W2 at *
  generalize ts 11 = u11_W2 at *
  generalize ts 12 = u12_W2 at *
  clear ts
  go_wp2
  go_ret
  exact ⟨rfl, below_trans B hb2⟩
set_option maxHeartbeats 2000000 in
theorem rBelow_any (v : Value) (x : Cx) (a b : Int) (d : Nat) (w : World) (h : IsQ w v x) (hl : Low x a b d) (sa : wl a.natAbs < 268435456) (sd : wl d < 268435456) :
    Calls Tryz.prog 15 #[v] w fun e w' => e = .returned (.float .f64 (rdB64 a d (if a < 0 then 1 else 0))) ∧ Below w.heap.size w w' := by
  have hd := hl.pos
  obtain ⟨A1, n1, c1, p1, A1b, n1b, c1b, p1b, A1c, n1c, c1c, a1, b1, d1, rfl, hl1, hr1, hi1, hs1, hn1, hm1, hd1, hp1, hq1, hs2, hs3⟩ := h.parts
  obtain ⟨rfl, rfl, rfl⟩ := hl.uniq hl1
  have HT := hid (fun W (hb : Below w.heap.size w W) up => rtoward_any _ _ a.natAbs d up W (hs2.below hb) (hs1.below hb) hd sa sd)
  obtain ⟨f, hf⟩ : ∃ f, f = rdF 53 (-1074) 971 a.natAbs d (if a < 0 then 1 else 0) := ⟨_, rfl⟩
  have HV := hid (show rdB64 a d (if a < 0 then 1 else 0) = flt f (decide (a < 0)) by rw [hf]; rfl)
  have hlt : f ≤ 9218868437227405312 := by
    rw [hf]
    rcases Nat.eq_zero_or_pos a.natAbs with h0 | h0
    · rw [h0, rdF_zero]; omega
    · obtain ⟨n0, n1', e0, e1, f0, f1, -⟩ := low_high h0 hd
      split
      · rw [e1]; omega
      · rw [e0]; omega
  have HTW := hid (show ∀ b, TwB a.natAbs d (p1) b → b = f from fun b hb => by
    rw [tow_double hd hb, hf, hp1]
    by_cases hn : a < 0 <;> simp [hn])
  rw [HV.out]
  have HP := hid hp1
  clear h hl sa sd hl1 hr1 hi1 hs1 hn1 hm1 hd1 hq1 hs2 hs3 hf HV
  rw [← hp1]
  clear hp1
  have hneg := neg_run f
  have hng : Op.negFloat .f64 f = f + 9223372036854775808 := neg_pos (by omega)
  have HNG := hid hng
  go_enter Tryz.func15, Tryz.ntmps15
  go_upto_region 1 with fail
  obtain ⟨W1, hW1⟩ : ∃ W1 : World, W1 = w.alloc (.cells #[.bool p1, .slice A1 n1 c1, .bool p1b, .slice A1b n1b c1b, .slice A1c n1c c1c] 34) := ⟨_, rfl⟩
  rw [← hW1]
  have B : Below w.heap.size w W1 := by rw [hW1]; exact below_alloc _ _
  have X0 : W1.heap[w.heap.size]? = some (.cells #[.bool p1, .slice A1 n1 c1, .bool p1b, .slice A1b n1b c1b, .slice A1c n1c c1c] 34 (0, 0)) := by rw [hW1]; exact heap_alloc_new _ _
  have z0 : w.heap.size < W1.heap.size := by rw [hW1]; simp
  clear hW1
  obtain ⟨f0, f1, f2, f3, f4, -⟩ := bx5 X0
  go_wp2_with fail
  refine (HT.out _ B _).mono ?_
  rintro e W2 ⟨b9, rfl, hb9, hbw⟩
  obtain rfl := HTW.out b9 hb9
  obtain ⟨f0, f1, f2, f3, f4, -⟩ := bx5 ((hbw.block _ z0).trans X0)
  have B2 := below_trans B hbw
  clear hb9 hbw X0 z0 HT HTW
  cases p1
  · have HR := hid (flt_pos b9)
    go_wp2
    go_ret
    exact ⟨by rw [HR.out]; rfl, B2⟩
  · by_cases hz : b9 = 0
    · subst hz
      have o1 : FloatKind.f64.format.order 0 0 = some Ordering.eq := by decide +kernel
      have HR := hid (show flt 0 true = 0 by decide)
      go_wp2
      go_ret
      exact ⟨by rw [HR.out]; rfl, B2⟩
    · have o1 : FloatKind.f64.format.order b9 0 = some Ordering.gt := by
        rcases Nat.lt_or_ge b9 9218868437227405312 with h9 | h9
        · rw [ord_zero (by omega) (fx_fin h9), Int.compare_eq_gt.2 (fI_gt h9 hz)]
        · obtain rfl : b9 = 9218868437227405312 := by omega
          decide +kernel
      have HR := hid (show Op.negFloat .f64 b9 = flt b9 true by rw [hng, flt_neg (by omega), if_neg hz])
      clear hlt hng hz
      go_wp2
      go_ret
      exact ⟨by rw [HR.out]; rfl, B2⟩
set_option maxHeartbeats 2000000 in
theorem rAbove_any (v : Value) (x : Cx) (a b : Int) (d : Nat) (w : World) (h : IsQ w v x) (hl : Low x a b d) (sa : wl a.natAbs < 268435456) (sd : wl d < 268435456) :
    Calls Tryz.prog 17 #[v] w fun e w' => e = .returned (.float .f64 (rdB64 a d (if a < 0 then 0 else 1))) ∧ Below w.heap.size w w' := by
  have hd := hl.pos
  obtain ⟨A1, n1, c1, p1, A1b, n1b, c1b, p1b, A1c, n1c, c1c, a1, b1, d1, rfl, hl1, hr1, hi1, hs1, hn1, hm1, hd1, hp1, hq1, hs2, hs3⟩ := h.parts
  obtain ⟨rfl, rfl, rfl⟩ := hl.uniq hl1
  have HT := hid (fun W (hb : Below w.heap.size w W) up => rtoward_any _ _ a.natAbs d up W (hs2.below hb) (hs1.below hb) hd sa sd)
  obtain ⟨f, hf⟩ : ∃ f, f = rdF 53 (-1074) 971 a.natAbs d (if a < 0 then 0 else 1) := ⟨_, rfl⟩
  have HV := hid (show rdB64 a d (if a < 0 then 0 else 1) = flt f (decide (a < 0)) by rw [hf]; rfl)
  have hlt : f ≤ 9218868437227405312 := by
    rw [hf]
    rcases Nat.eq_zero_or_pos a.natAbs with h0 | h0
    · rw [h0, rdF_zero]; omega
    · obtain ⟨n0, n1', e0, e1, f0, f1, -⟩ := low_high h0 hd
      split
      · rw [e0]; omega
      · rw [e1]; omega
  have HTW := hid (show ∀ b, TwB a.natAbs d (!p1) b → b = f from fun b hb => by
    rw [tow_double hd hb, hf, hp1]
    by_cases hn : a < 0 <;> simp [hn])
  rw [HV.out]
  have HP := hid hp1
  clear h hl sa sd hl1 hr1 hi1 hs1 hn1 hm1 hd1 hq1 hs2 hs3 hf HV
  rw [← hp1]
  clear hp1
  have hneg := neg_run f
  have hng : Op.negFloat .f64 f = f + 9223372036854775808 := neg_pos (by omega)
  have HNG := hid hng
  go_enter Tryz.func17, Tryz.ntmps17
  go_upto_region 1 with fail
  obtain ⟨W1, hW1⟩ : ∃ W1 : World, W1 = w.alloc (.cells #[.bool p1, .slice A1 n1 c1, .bool p1b, .slice A1b n1b c1b, .slice A1c n1c c1c] 34) := ⟨_, rfl⟩
  rw [← hW1]
  have B : Below w.heap.size w W1 := by rw [hW1]; exact below_alloc _ _
  have X0 : W1.heap[w.heap.size]? = some (.cells #[.bool p1, .slice A1 n1 c1, .bool p1b, .slice A1b n1b c1b, .slice A1c n1c c1c] 34 (0, 0)) := by rw [hW1]; exact heap_alloc_new _ _
  have z0 : w.heap.size < W1.heap.size := by rw [hW1]; simp
  clear hW1
  obtain ⟨f0, f1, f2, f3, f4, -⟩ := bx5 X0
  go_wp2_with fail
  refine (HT.out _ B _).mono ?_
  rintro e W2 ⟨b9, rfl, hb9, hbw⟩
  obtain rfl := HTW.out b9 hb9
  obtain ⟨f0, f1, f2, f3, f4, -⟩ := bx5 ((hbw.block _ z0).trans X0)
  have B2 := below_trans B hbw
  clear hb9 hbw X0 z0 HT HTW
  cases p1
  · have HR := hid (flt_pos b9)
    go_wp2
    go_ret
    exact ⟨by rw [HR.out]; rfl, B2⟩
  · by_cases hz : b9 = 0
    · subst hz
      have o1 : FloatKind.f64.format.order 0 0 = some Ordering.eq := by decide +kernel
      have HR := hid (show flt 0 true = 0 by decide)
      go_wp2
      go_ret
      exact ⟨by rw [HR.out]; rfl, B2⟩
    · have o1 : FloatKind.f64.format.order b9 0 = some Ordering.gt := by
        rcases Nat.lt_or_ge b9 9218868437227405312 with h9 | h9
        · rw [ord_zero (by omega) (fx_fin h9), Int.compare_eq_gt.2 (fI_gt h9 hz)]
        · obtain rfl : b9 = 9218868437227405312 := by omega
          decide +kernel
      have HR := hid (show Op.negFloat .f64 b9 = flt b9 true by rw [hng, flt_neg (by omega), if_neg hz])
      clear hlt hng hz
      go_wp2
      go_ret
      exact ⟨by rw [HR.out]; rfl, B2⟩
end Go.Proofs.YtccldiokpgjocaaGreatDoor
