import Derived.Test.YtccldiokpgjocaaGreatDoorP14
import Derived.Test.YtccldiokpgjocaaGreatDoorP27
import Derived.Test.YtccldiokpgjocaaGreatDoorP42
import Derived.Test.YtccldiokpgjocaaGreatDoorP49
set_option linter.unusedSimpArgs false
set_option linter.unusedVariables false
namespace Go.Proofs.YtccldiokpgjocaaGreatDoor
open Go.RowKit
set_option maxRecDepth 100000
def rdB64 (a : Int) (d : Nat) (way : Int) : Nat := flt (rdF 53 (-1074) 971 a.natAbs d way) (decide (a < 0))
set_option maxHeartbeats 1000000 in
theorem rounded_any (v : Value) (x : Cx) (a b : Int) (d : Nat) (above below way : Int) (w : World) (h : IsNum w v x) (hx : Low x a b d) (sa : wl a.natAbs < 268435456) (sd : wl d < 268435456) (hway : way = if a < 0 then below else above) (hw : way = 0 ∨ way = 1 ∨ way = 2) :
    Calls Tryz.prog 49 #[v, .int .i64 above, .int .i64 below] w fun e w' => e = .returned (.float .f64 (rdB64 a d way)) ∧ Below w.heap.size w w' := by
  have HD := hid (fun W (hb : Below w.heap.size w W) => denominator_any _ _ W (h.below hb) a b d hx)
  obtain ⟨A1, n1, c1, p1, A1b, n1b, c1b, p1b, A1c, n1c, c1c, a', b', d', rfl, hl, hr, hi, hs, -, hq1, -, hra, -⟩ := h.parts
  obtain ⟨rfl, rfl, rfl⟩ := hx.uniq hl
  have hd := hl.pos
  have HDb := hid (fun W => double_any W)
  have HR := hid (fun W u (hb : Below w.heap.size w W) (hu : IsNat W u d) => round_any (.slice A1 n1 c1) u a.natAbs d 53 (-1074) 971 way W Fm.double (hra.below hb) hu hd sa sd hw)
  have la := rdF_lt (p := a.natAbs) Fm.double hd way
  have HT := hid (fun W => toFloat_any (rdF 53 (-1074) 971 a.natAbs d way) p1 W la)
  have HV := hid (show rdB64 a d way = flt (rdF 53 (-1074) 971 a.natAbs d way) p1 by rw [hq1]; rfl)
  have hwy : way = if p1 then below else above := by rw [hway, hq1]; simp
  rw [HV.out]
  clear la hq1 hra hl hr hi hs h hx sa sd hw hd hway HV
  generalize rdF 53 (-1074) 971 a.natAbs d way = ma at *
  go_enter Tryz.func49, Tryz.ntmps49
  cases p1
  · obtain rfl : way = above := hwy
    go_upto_region 4 with fail
    obtain ⟨W1, hW1⟩ : ∃ W1 : World, W1 = w.alloc (.cells #[.slice A1 n1 c1, .bool false, .slice A1b n1b c1b, .bool p1b, .slice A1c n1c c1c] 30) := ⟨_, rfl⟩
    rw [← hW1]
    have B : Below w.heap.size w W1 := by rw [hW1]; exact below_alloc _ _
    have X0 : W1.heap[w.heap.size]? = some (.cells #[.slice A1 n1 c1, .bool false, .slice A1b n1b c1b, .bool p1b, .slice A1c n1c c1c] 30 (0, 0)) := by rw [hW1]; exact heap_alloc_new w _
    have z0 : w.heap.size < W1.heap.size := by rw [hW1]; simp
    clear hW1
    refine region_lin [.val (kIs (fmtV 53 (-1074) 971)), .val (kIs (.pointer (some ⟨w.heap.size, 0, none⟩))), .val (kIs (.pointer (some ⟨w.heap.size, 0, none⟩))), .val (kIs (.slice A1 n1 c1)), .val (kIs (.agg #[.slice A1 n1 c1, .bool false, .slice A1b n1b c1b, .bool p1b, .slice A1c n1c c1c])), .val (kNat d), .val (kIs (.int .i64 way)), .val (kIs (.int .u64 (ma : Int))), .val (kIs (.pointer (some ⟨w.heap.size, 0, none⟩))), .val (kIs (.pointer (some ⟨w.heap.size, 1, none⟩))), .val (kIs (.bool false)), .val (kIs (.float .f64 (flt ma false))), .val (kIs (.float .f64 (flt ma false)))]
      (by kernel_rfl) (by kernel_rfl) (by kernel_rfl) (by kernel_rfl) (by kernel_rfl) ⟨Stab.b (stab_is _), Stab.b (stab_is _), Stab.b (stab_is _), Stab.b (stab_is _), Stab.b (stab_is _), stabB_nat _, Stab.b (stab_is _), Stab.b (stab_is _), Stab.b (stab_is _), Stab.b (stab_is _), Stab.b (stab_is _), Stab.b (stab_is _), Stab.b (stab_is _), trivial⟩ (by simp) ⟨?_, ?_, ?_, ?_, ?_, ?_, ?_, ?_, ?_, ?_, ?_, ?_, ?_, trivial⟩ ?_
    · intro ts W hb hB hp; intro K hK; simp only [fillT, Nat.zero_add, Nat.reduceAdd, sA, sB, sC] at hK ⊢; have HK := hid hK; clear hK hp; refine ⟨?_⟩; go_simp; refine (HDb.out _).mono ?_; rintro e W9 ⟨rfl, hb9⟩; exact HK.out _ _ rfl hb9
    · exact obp
    · intro ts W hb hB hp; have h1 : ts 1 = _ := hp 1 (by kernel_rfl); intro K hK; simp only [fillT, Nat.zero_add, Nat.reduceAdd, sA, sB, sC, h1] at hK ⊢; have HK := hid hK; clear hK hp; refine ⟨?_⟩; go_simp; exact HK.out _ _ rfl rfB
    · intro ts W hb hB hp; have h2 : ts 2 = _ := hp 2 (by kernel_rfl); intro K hK; simp only [fillT, Nat.zero_add, Nat.reduceAdd, sA, sB, sC, h2] at hK ⊢; have HK := hid hK; clear hK hp; obtain ⟨f0, f1, f2, f3, f4, -, -, -, -, -⟩ := bx5 ((hb.block _ z0).trans X0); refine ⟨?_⟩; go_simp; exact HK.out _ _ rfl rfB
    · intro ts W hb hB hp; intro K hK; simp only [fillT, Nat.zero_add, Nat.reduceAdd, sA, sB, sC] at hK ⊢; have HK := hid hK; clear hK hp; obtain ⟨f0, f1, f2, f3, f4, -, -, -, -, -⟩ := bx5 ((hb.block _ z0).trans X0); refine ⟨?_⟩; go_simp; exact HK.out _ _ rfl rfB
    · intro ts W hb hB hp; have h4 : ts 4 = _ := hp 4 (by kernel_rfl); intro K hK; simp only [fillT, Nat.zero_add, Nat.reduceAdd, sA, sB, sC, h4] at hK ⊢; have HK := hid hK; clear hK hp; refine ⟨?_⟩; go_simp; refine (HD.out W (below_trans B hb)).mono ?_; rintro e W9 ⟨r9, rfl, hr9, hb9⟩; exact HK.out _ _ hr9 hb9
    · exact obp
    · intro ts W hb hB hp; have h0 : ts 0 = _ := hp 0 (by kernel_rfl); have h3 : ts 3 = _ := hp 3 (by kernel_rfl); have h5 := hp 5 (by kernel_rfl); have h6 : ts 6 = _ := hp 6 (by kernel_rfl); intro K hK; simp only [fillT, Nat.zero_add, Nat.reduceAdd, sA, sB, sC, h0, h3, h6] at hK ⊢; have HK := hid hK; clear hK hp; refine ⟨?_⟩; go_simp; refine (HR.out _ _ (below_trans B hb) h5).mono ?_; rintro e W9 ⟨rfl, hb9⟩; exact HK.out _ _ rfl hb9
    · exact obp
    · intro ts W hb hB hp; have h8 : ts 8 = _ := hp 8 (by kernel_rfl); intro K hK; simp only [fillT, Nat.zero_add, Nat.reduceAdd, sA, sB, sC, h8] at hK ⊢; have HK := hid hK; clear hK hp; refine ⟨?_⟩; go_simp; exact HK.out _ _ rfl rfB
    · intro ts W hb hB hp; have h9 : ts 9 = _ := hp 9 (by kernel_rfl); intro K hK; simp only [fillT, Nat.zero_add, Nat.reduceAdd, sA, sB, sC, h9] at hK ⊢; have HK := hid hK; clear hK hp; obtain ⟨f0, f1, f2, f3, f4, -, -, -, -, -⟩ := bx5 ((hb.block _ z0).trans X0); refine ⟨?_⟩; go_simp; exact HK.out _ _ rfl rfB
    · intro ts W hb hB hp; have h7 : ts 7 = _ := hp 7 (by kernel_rfl); have h10 : ts 10 = _ := hp 10 (by kernel_rfl); intro K hK; simp only [fillT, Nat.zero_add, Nat.reduceAdd, sA, sB, sC, h7, h10] at hK ⊢; have HK := hid hK; clear hK hp; refine ⟨?_⟩; go_simp; refine (HT.out _).mono ?_; rintro e W9 ⟨rfl, rfl⟩; exact HK.out _ _ rfl rfB
    · intro ts W hb hB hp; have h11 : ts 11 = _ := hp 11 (by kernel_rfl); intro K hK; simp only [fillT, Nat.zero_add, Nat.reduceAdd, sA, sB, sC, h11] at hK ⊢; have HK := hid hK; clear hK hp; refine ⟨?_⟩; go_simp; exact HK.out _ _ rfl rfB
    intro ts W2 hb2 hh hap
    have e12 := held_is (hh 12 (by simp)) rfl
    simp only [fillT, Nat.zero_add, Nat.reduceAdd, sA, sB, sC, e12]
    clear hh hap e12
    generalize ts 0 = u0 at *
    generalize ts 1 = u1 at *
    generalize ts 2 = u2 at *
    generalize ts 3 = u3 at *
    generalize ts 4 = u4 at *
    generalize ts 5 = u5 at *
    generalize ts 6 = u6 at *
    generalize ts 7 = u7 at *
    generalize ts 8 = u8 at *
    generalize ts 9 = u9 at *
    generalize ts 10 = u10 at *
    generalize ts 11 = u11 at *
    go_wp2
    go_ret
    exact ⟨rfl, below_trans B hb2⟩
  · obtain rfl : way = below := hwy
    go_upto_region 4 with fail
    obtain ⟨W1, hW1⟩ : ∃ W1 : World, W1 = w.alloc (.cells #[.slice A1 n1 c1, .bool true, .slice A1b n1b c1b, .bool p1b, .slice A1c n1c c1c] 30) := ⟨_, rfl⟩
    rw [← hW1]
    have B : Below w.heap.size w W1 := by rw [hW1]; exact below_alloc _ _
    have X0 : W1.heap[w.heap.size]? = some (.cells #[.slice A1 n1 c1, .bool true, .slice A1b n1b c1b, .bool p1b, .slice A1c n1c c1c] 30 (0, 0)) := by rw [hW1]; exact heap_alloc_new w _
    have z0 : w.heap.size < W1.heap.size := by rw [hW1]; simp
    clear hW1
    refine region_lin [.val (kIs (fmtV 53 (-1074) 971)), .val (kIs (.pointer (some ⟨w.heap.size, 0, none⟩))), .val (kIs (.pointer (some ⟨w.heap.size, 0, none⟩))), .val (kIs (.slice A1 n1 c1)), .val (kIs (.agg #[.slice A1 n1 c1, .bool true, .slice A1b n1b c1b, .bool p1b, .slice A1c n1c c1c])), .val (kNat d), .val (kIs (.int .i64 way)), .val (kIs (.int .u64 (ma : Int))), .val (kIs (.pointer (some ⟨w.heap.size, 0, none⟩))), .val (kIs (.pointer (some ⟨w.heap.size, 1, none⟩))), .val (kIs (.bool true)), .val (kIs (.float .f64 (flt ma true))), .val (kIs (.float .f64 (flt ma true)))]
      (by kernel_rfl) (by kernel_rfl) (by kernel_rfl) (by kernel_rfl) (by kernel_rfl) ⟨Stab.b (stab_is _), Stab.b (stab_is _), Stab.b (stab_is _), Stab.b (stab_is _), Stab.b (stab_is _), stabB_nat _, Stab.b (stab_is _), Stab.b (stab_is _), Stab.b (stab_is _), Stab.b (stab_is _), Stab.b (stab_is _), Stab.b (stab_is _), Stab.b (stab_is _), trivial⟩ (by simp) ⟨?_, ?_, ?_, ?_, ?_, ?_, ?_, ?_, ?_, ?_, ?_, ?_, ?_, trivial⟩ ?_
    · intro ts W hb hB hp; intro K hK; simp only [fillT, Nat.zero_add, Nat.reduceAdd, sA, sB, sC] at hK ⊢; have HK := hid hK; clear hK hp; refine ⟨?_⟩; go_simp; refine (HDb.out _).mono ?_; rintro e W9 ⟨rfl, hb9⟩; exact HK.out _ _ rfl hb9
    · exact obp
    · intro ts W hb hB hp; have h1 : ts 1 = _ := hp 1 (by kernel_rfl); intro K hK; simp only [fillT, Nat.zero_add, Nat.reduceAdd, sA, sB, sC, h1] at hK ⊢; have HK := hid hK; clear hK hp; refine ⟨?_⟩; go_simp; exact HK.out _ _ rfl rfB
    · intro ts W hb hB hp; have h2 : ts 2 = _ := hp 2 (by kernel_rfl); intro K hK; simp only [fillT, Nat.zero_add, Nat.reduceAdd, sA, sB, sC, h2] at hK ⊢; have HK := hid hK; clear hK hp; obtain ⟨f0, f1, f2, f3, f4, -, -, -, -, -⟩ := bx5 ((hb.block _ z0).trans X0); refine ⟨?_⟩; go_simp; exact HK.out _ _ rfl rfB
    · intro ts W hb hB hp; intro K hK; simp only [fillT, Nat.zero_add, Nat.reduceAdd, sA, sB, sC] at hK ⊢; have HK := hid hK; clear hK hp; obtain ⟨f0, f1, f2, f3, f4, -, -, -, -, -⟩ := bx5 ((hb.block _ z0).trans X0); refine ⟨?_⟩; go_simp; exact HK.out _ _ rfl rfB
    · intro ts W hb hB hp; have h4 : ts 4 = _ := hp 4 (by kernel_rfl); intro K hK; simp only [fillT, Nat.zero_add, Nat.reduceAdd, sA, sB, sC, h4] at hK ⊢; have HK := hid hK; clear hK hp; refine ⟨?_⟩; go_simp; refine (HD.out W (below_trans B hb)).mono ?_; rintro e W9 ⟨r9, rfl, hr9, hb9⟩; exact HK.out _ _ hr9 hb9
    · exact obp
    · intro ts W hb hB hp; have h0 : ts 0 = _ := hp 0 (by kernel_rfl); have h3 : ts 3 = _ := hp 3 (by kernel_rfl); have h5 := hp 5 (by kernel_rfl); have h6 : ts 6 = _ := hp 6 (by kernel_rfl); intro K hK; simp only [fillT, Nat.zero_add, Nat.reduceAdd, sA, sB, sC, h0, h3, h6] at hK ⊢; have HK := hid hK; clear hK hp; refine ⟨?_⟩; go_simp; refine (HR.out _ _ (below_trans B hb) h5).mono ?_; rintro e W9 ⟨rfl, hb9⟩; exact HK.out _ _ rfl hb9
    · exact obp
    · intro ts W hb hB hp; have h8 : ts 8 = _ := hp 8 (by kernel_rfl); intro K hK; simp only [fillT, Nat.zero_add, Nat.reduceAdd, sA, sB, sC, h8] at hK ⊢; have HK := hid hK; clear hK hp; refine ⟨?_⟩; go_simp; exact HK.out _ _ rfl rfB
    · intro ts W hb hB hp; have h9 : ts 9 = _ := hp 9 (by kernel_rfl); intro K hK; simp only [fillT, Nat.zero_add, Nat.reduceAdd, sA, sB, sC, h9] at hK ⊢; have HK := hid hK; clear hK hp; obtain ⟨f0, f1, f2, f3, f4, -, -, -, -, -⟩ := bx5 ((hb.block _ z0).trans X0); refine ⟨?_⟩; go_simp; exact HK.out _ _ rfl rfB
    · intro ts W hb hB hp; have h7 : ts 7 = _ := hp 7 (by kernel_rfl); have h10 : ts 10 = _ := hp 10 (by kernel_rfl); intro K hK; simp only [fillT, Nat.zero_add, Nat.reduceAdd, sA, sB, sC, h7, h10] at hK ⊢; have HK := hid hK; clear hK hp; refine ⟨?_⟩; go_simp; refine (HT.out _).mono ?_; rintro e W9 ⟨rfl, rfl⟩; exact HK.out _ _ rfl rfB
    · intro ts W hb hB hp; have h11 : ts 11 = _ := hp 11 (by kernel_rfl); intro K hK; simp only [fillT, Nat.zero_add, Nat.reduceAdd, sA, sB, sC, h11] at hK ⊢; have HK := hid hK; clear hK hp; refine ⟨?_⟩; go_simp; exact HK.out _ _ rfl rfB
    intro ts W2 hb2 hh hap
    have e12 := held_is (hh 12 (by simp)) rfl
    simp only [fillT, Nat.zero_add, Nat.reduceAdd, sA, sB, sC, e12]
    clear hh hap e12
    generalize ts 0 = u0 at *
    generalize ts 1 = u1 at *
    generalize ts 2 = u2 at *
    generalize ts 3 = u3 at *
    generalize ts 4 = u4 at *
    generalize ts 5 = u5 at *
    generalize ts 6 = u6 at *
    generalize ts 7 = u7 at *
    generalize ts 8 = u8 at *
    generalize ts 9 = u9 at *
    generalize ts 10 = u10 at *
    generalize ts 11 = u11 at *
    go_wp2
    go_ret
    exact ⟨rfl, below_trans B hb2⟩
theorem belowN_any (v : Value) (x : Cx) (a b : Int) (d : Nat) (w : World) (h : IsNum w v x) (hx : Low x a b d) (sa : wl a.natAbs < 268435456) (sd : wl d < 268435456) :
    Calls Tryz.prog 14 #[v] w fun e w' => e = .returned (.float .f64 (rdB64 a d (if a < 0 then 1 else 0))) ∧ Below w.heap.size w w' := by
  have H := hid (fun W (hb : Below w.heap.size w W) => rounded_any v x a b d 0 1 (if a < 0 then 1 else 0) W (h.below hb) hx sa sd rfl (by split <;> omega))
  obtain ⟨A1, n1, c1, p1, A1b, n1b, c1b, p1b, A1c, n1c, c1c, a', b', d', rfl, -⟩ := h.parts
  clear h hx sa sd
  generalize rdB64 a d (if a < 0 then 1 else 0) = r at *
  go_enter Tryz.func14, Tryz.ntmps14
  go_wp2_with fail
  refine (H.out _ (below_alloc _ _)).mono ?_
  rintro e W2 ⟨rfl, hb2⟩
  go_wp2
  go_ret
  exact ⟨rfl, below_trans (below_alloc _ _) hb2⟩
theorem aboveN_any (v : Value) (x : Cx) (a b : Int) (d : Nat) (w : World) (h : IsNum w v x) (hx : Low x a b d) (sa : wl a.natAbs < 268435456) (sd : wl d < 268435456) :
    Calls Tryz.prog 16 #[v] w fun e w' => e = .returned (.float .f64 (rdB64 a d (if a < 0 then 0 else 1))) ∧ Below w.heap.size w w' := by
  have H := hid (fun W (hb : Below w.heap.size w W) => rounded_any v x a b d 1 0 (if a < 0 then 0 else 1) W (h.below hb) hx sa sd rfl (by split <;> omega))
  obtain ⟨A1, n1, c1, p1, A1b, n1b, c1b, p1b, A1c, n1c, c1c, a', b', d', rfl, -⟩ := h.parts
  clear h hx sa sd
  generalize rdB64 a d (if a < 0 then 0 else 1) = r at *
  go_enter Tryz.func16, Tryz.ntmps16
  go_wp2_with fail
  refine (H.out _ (below_alloc _ _)).mono ?_
  rintro e W2 ⟨rfl, hb2⟩
  go_wp2
  go_ret
  exact ⟨rfl, below_trans (below_alloc _ _) hb2⟩
end Go.Proofs.YtccldiokpgjocaaGreatDoor
set_option linter.unusedSimpArgs false
set_option linter.unusedVariables false
namespace Go.Proofs.YtccldiokpgjocaaGreatDoor
theorem two52 : (2 : Nat) ^ (53 - 1) = 4503599627370496 := by decide +kernel
theorem two53 : (2 : Nat) ^ 53 = 9007199254740992 := by decide +kernel
theorem infB_double : infB 53 (-1074) 971 = 9218868437227405312 := by decide +kernel
theorem mg_of {m t : Nat} (hm : m ≤ 9007199254740992) (ht : t = 0 ∨ 4503599627370496 ≤ m) (hf : t * 4503599627370496 + m < 9218868437227405312) :
    fmag (t * 4503599627370496 + m) * 2 ^ fup (t * 4503599627370496 + m) = m * 2 ^ t := by
  have hx : fx (t * 4503599627370496 + m) = (t * 4503599627370496 + m) / 4503599627370496 := by unfold fx; omega
  unfold fmag fup fm
  rw [hx]
  rcases Nat.lt_or_ge m 4503599627370496 with h | h
  · obtain rfl : t = 0 := by omega
    rw [Nat.zero_mul, Nat.zero_add, Nat.div_eq_of_lt h, if_pos rfl, Nat.mod_eq_of_lt h]
  · rcases Nat.lt_or_ge m 9007199254740992 with h2 | h2
    · rw [show (t * 4503599627370496 + m) / 4503599627370496 = t + 1 by omega, if_neg (by omega), show (t * 4503599627370496 + m) % 4503599627370496 = m - 4503599627370496 by omega, Nat.add_sub_cancel, Nat.sub_add_cancel h]
    · obtain rfl : m = 9007199254740992 := by omega
      rw [show (t * 4503599627370496 + 9007199254740992) / 4503599627370496 = t + 1 + 1 by omega, if_neg (by omega), show (t * 4503599627370496 + 9007199254740992) % 4503599627370496 = 0 by omega, Nat.add_sub_cancel, Nat.pow_succ]
      generalize 2 ^ t = x
      omega
theorem c74 : (-(-1074 : Int)).toNat = ex74 := rfl
def ex45 : Nat := 2045
theorem ex45_eq : ex45 = 2045 := rfl
theorem cast3 {x y z w : Nat} (h : x * y ≤ z * w) : (x : Int) * (y : Int) ≤ (z : Int) * (w : Int) := by
  have : ((x * y : Nat) : Int) ≤ ((z * w : Nat) : Int) := Int.ofNat_le.2 h
  rwa [Int.natCast_mul, Int.natCast_mul] at this
theorem cast4 {x y z w : Nat} (h : x * y = z * w) : (x : Int) * (y : Int) = (z : Int) * (w : Int) := by
  have : ((x * y : Nat) : Int) = ((z * w : Nat) : Int) := congrArg _ h
  rwa [Int.natCast_mul, Int.natCast_mul] at this
theorem max_mag : fmag 9218868437227405311 = 9007199254740991 ∧ fup 9218868437227405311 = ex45 := ⟨by decide +kernel, rfl⟩
theorem over_low {p q m t : Nat} (hq : 0 < q) (hle : m * 2 ^ t * q ≤ p * two74) (h52 : 4503599627370496 ≤ m) (ov : 2046 ≤ t) : fmag 9218868437227405311 * 2 ^ fup 9218868437227405311 * q < p * two74 := by
  rw [max_mag.1, max_mag.2]
  refine Nat.lt_of_lt_of_le ?_ hle
  clear hle
  refine Nat.mul_lt_mul_of_pos_right ?_ hq
  obtain ⟨k, hk⟩ : ∃ k, t = ex45 + 1 + k := ⟨t - 2046, by have := ex45_eq; omega⟩
  have e3 : 2 ^ t = 2 ^ ex45 * 2 * 2 ^ k := by rw [hk, Nat.pow_add, Nat.pow_succ]
  have e4 : 2 ^ ex45 * 2 ≤ 2 ^ t := by rw [e3]; exact Nat.le_mul_of_pos_right _ (Nat.pow_pos (by omega))
  have e5 : 4503599627370496 * (2 ^ ex45 * 2) ≤ m * 2 ^ t := Nat.mul_le_mul h52 e4
  have e6 : 0 < 2 ^ ex45 := Nat.pow_pos (by omega)
  clear e3 hk e4
  generalize 2 ^ ex45 = x at *
  generalize m * 2 ^ t = y at *
  omega
theorem ov_0 : ovB 53 (-1074) 971 0 = 9218868437227405311 := by
  unfold ovB; rw [infB_double]; rfl
theorem ov_1 : ovB 53 (-1074) 971 1 = 9218868437227405312 := by
  unfold ovB; rw [infB_double]; rfl
theorem up_0 (m R V : Nat) : upR m R V 0 = false := rfl
theorem up_1 (m R V : Nat) : upR m R V 1 = decide (0 < R) := rfl
theorem low_high {p q : Nat} (hp : 0 < p) (hq : 0 < q) : ∃ n0 n1, rdF 53 (-1074) 971 p q 0 = n0 ∧ rdF 53 (-1074) 971 p q 1 = n1 ∧ n0 < 9218868437227405312 ∧ n1 ≤ 9218868437227405312 ∧
    fmag n0 * 2 ^ fup n0 * q ≤ p * two74 ∧ (n1 = n0 ∧ fmag n0 * 2 ^ fup n0 * q = p * two74 ∨ n1 = n0 + 1 ∧ fmag n0 * 2 ^ fup n0 * q < p * two74) ∧ (n1 < 9218868437227405312 → p * two74 ≤ fmag n1 * 2 ^ fup n1 * q) ∧ n1 ≠ 0 := by
  obtain ⟨m, t, h, hr⟩ := rdF_spl (hi := 971) Fm.double hp hq
  have h0 := hr 0
  have h1 := hr 1
  have hle := h.le
  have hlt := h.lt
  have hm := h.hm
  have ht := h.ht
  unfold splR at h0 h1
  rw [c74] at hle hlt h0 h1
  rw [two52] at ht
  rw [two53] at hm
  have hV : 0 < 2 ^ t * q := Nat.mul_pos (Nat.pow_pos (by omega)) hq
  have hpT : 0 < p * two74 := Nat.mul_pos hp two74_pos
  have hT : p * 2 ^ ex74 = p * two74 := by unfold two74; rfl
  rw [hT] at hle hlt h0 h1
  by_cases ov : (971 : Int) - (-1074) < (t : Int)
  · rw [if_pos ov] at h0 h1
    refine ⟨9218868437227405311, 9218868437227405312, by rw [h0, ov_0], by rw [h1, ov_1], by omega, by omega, ?_⟩
    have h5 := over_low hq hle (by omega) (by omega)
    exact ⟨Nat.le_of_lt h5, .inr ⟨rfl, h5⟩, fun h => absurd h (by omega), by omega⟩
  · rw [if_neg ov] at h0 h1
    rw [up_0, two52, if_neg Bool.false_ne_true, Nat.add_zero] at h0
    rw [up_1, two52] at h1
    have hfin : t * 4503599627370496 + m < 9218868437227405312 := by omega
    have g0 := mg_of (Nat.le_of_lt hm) ht hfin
    by_cases hx : m * 2 ^ t * q = p * two74
    · rw [if_neg (by simp; omega), Nat.add_zero] at h1
      refine ⟨_, _, h0, h1, hfin, Nat.le_of_lt hfin, by rw [g0]; omega, .inl ⟨rfl, by rw [g0]; exact hx⟩, fun _ => by rw [g0]; omega, fun h => ?_⟩
      have : m = 0 := by omega
      rw [this, Nat.zero_mul, Nat.zero_mul] at hx
      omega
    · rw [if_pos (by simp; omega), Nat.add_assoc] at h1
      refine ⟨_, _, h0, h1, hfin, by omega, by rw [g0]; omega, .inr ⟨by omega, by rw [g0]; omega⟩, fun hf => ?_, by omega⟩
      rw [mg_of (by omega) (by omega) hf]
      omega
theorem flt_pos (n : Nat) : flt n false = n := by unfold flt; simp
theorem flt_neg {n : Nat} (h : n < 9223372036854775808) : flt n true = if n = 0 then 0 else n + 9223372036854775808 := by
  unfold flt
  by_cases e : n = 0
  · simp [e]
  · simp [e]; exact or_63 h
theorem fI_pos {n : Nat} (h : n < 9223372036854775808) : fI n = ((fmag n * 2 ^ fup n : Nat) : Int) := by
  unfold fI fneg
  rw [decide_eq_false (by omega)]; rfl
theorem fI_neg' {n : Nat} (h : n < 9223372036854775808) : fI (n + 9223372036854775808) = -((fmag n * 2 ^ fup n : Nat) : Int) := by
  have e : fx (n + 9223372036854775808) = fx n := by unfold fx; omega
  have e2 : fm (n + 9223372036854775808) = fm n := by unfold fm; omega
  unfold fI fneg
  rw [decide_eq_true (by omega), if_pos rfl]
  unfold fmag fup
  rw [e, e2]
theorem fx_fin {n : Nat} (h : n < 9218868437227405312) : fx n ≠ 2047 := by unfold fx; omega
theorem fx_fin' {n : Nat} (h : n < 9218868437227405312) : fx (n + 9223372036854775808) ≠ 2047 := by unfold fx; omega
structure Around (a : Int) (d L H : Nat) : Prop where
  l64 : L < 18446744073709551616
  h64 : H < 18446744073709551616
  lowI : fx L = 2047 → L = 18442240474082181120
  highI : fx H = 2047 → H = 9218868437227405312
  low : fx L ≠ 2047 → fI L * (d : Int) ≤ a * (two74 : Int)
  high : fx H ≠ 2047 → a * (two74 : Int) ≤ fI H * (d : Int)
  step : L = H ∧ fx L ≠ 2047 ∧ IsF L a d ∨ (L < 9218868437227405312 ∧ H = L + 1) ∨ ∃ n, n < 9218868437227405312 ∧ L = n + 1 + 9223372036854775808 ∧ H = if n = 0 then 0 else n + 9223372036854775808
theorem around_of (a : Int) {d : Nat} (hd : 0 < d) : Around a d (rdB64 a d (if a < 0 then 1 else 0)) (rdB64 a d (if a < 0 then 0 else 1)) := by
  unfold rdB64
  rcases Int.lt_trichotomy a 0 with h | h | h
  · obtain ⟨n0, n1, e0, e1, f0, f1, g0, g1, g2, g3⟩ := low_high (p := a.natAbs) (q := d) (by omega) hd
    obtain ⟨p, rfl⟩ : ∃ p : Nat, a = -(p : Int) := ⟨a.natAbs, by omega⟩
    rw [if_pos h, if_pos h, decide_eq_true h, e0, e1, flt_neg (by omega), flt_neg (by omega), if_neg g3]
    rw [Int.natAbs_neg, Int.natAbs_natCast] at *
    have c0 : (if n0 = 0 then 0 else n0 + 9223372036854775808) < 18446744073709551616 ∧ fx (if n0 = 0 then 0 else n0 + 9223372036854775808) ≠ 2047 ∧ fI (if n0 = 0 then 0 else n0 + 9223372036854775808) = -((fmag n0 * 2 ^ fup n0 : Nat) : Int) := by
      split
      · rename_i e; subst e; decide
      · exact ⟨by omega, fx_fin' f0, fI_neg' (by omega)⟩
    refine ⟨by omega, c0.1, fun hx => ?_, fun hx => absurd hx c0.2.1, fun hx => ?_, fun _ => ?_, ?_⟩
    · have : n1 = 9218868437227405312 := by
        refine Nat.le_antisymm f1 (Nat.le_of_not_lt fun hl => fx_fin' hl hx)
      omega
    · have hl : n1 < 9218868437227405312 := by
        refine Nat.lt_of_le_of_ne f1 fun e => hx ?_
        rw [e]; decide
      have := g2 hl
      rw [fI_neg' (by omega), Int.neg_mul, Int.neg_mul]
      have h1 := cast3 this
      omega
    · rw [c0.2.2, Int.neg_mul, Int.neg_mul]
      have h1 := cast3 g0
      omega
    · rcases g1 with ⟨k1, k2⟩ | ⟨k1, k2⟩
      · left
        subst k1
        rw [if_neg g3]
        refine ⟨rfl, fx_fin' f0, ?_⟩
        unfold IsF
        rw [fI_neg' (by omega), Int.neg_mul, Int.neg_mul]
        have h1 := cast4 k2
        omega
      · exact .inr (.inr ⟨n0, f0, by omega, rfl⟩)
  · subst h
    have e : flt (rdF 53 (-1074) 971 (Int.natAbs 0) d (if (0 : Int) < 0 then 1 else 0)) (decide ((0 : Int) < 0)) = 0 := by simp [rdF, flt]
    have e' : flt (rdF 53 (-1074) 971 (Int.natAbs 0) d (if (0 : Int) < 0 then 0 else 1)) (decide ((0 : Int) < 0)) = 0 := by simp [rdF, flt]
    rw [e, e']
    have hI : fI 0 = 0 := by decide
    have hx : fx 0 ≠ 2047 := by decide
    refine ⟨by omega, by omega, fun h => absurd h hx, fun h => absurd h hx, fun _ => ?_, fun _ => ?_, .inl ⟨rfl, hx, ?_⟩⟩ <;> (try unfold IsF) <;> rw [hI] <;> simp
  · obtain ⟨n0, n1, e0, e1, f0, f1, g0, g1, g2, g3⟩ := low_high (p := a.natAbs) (q := d) (by omega) hd
    obtain ⟨p, rfl⟩ : ∃ p : Nat, a = (p : Int) := ⟨a.natAbs, by omega⟩
    rw [if_neg (by omega), if_neg (by omega), decide_eq_false (by omega), e0, e1, flt_pos, flt_pos]
    rw [Int.natAbs_natCast] at *
    refine ⟨by omega, by omega, fun hx => absurd hx (fx_fin f0), fun hx => ?_, fun _ => ?_, fun hx => ?_, ?_⟩
    · exact Nat.le_antisymm f1 (Nat.le_of_not_lt fun hl => fx_fin hl hx)
    · rw [fI_pos (by omega)]
      have h1 := cast3 g0
      omega
    · have hl : n1 < 9218868437227405312 := by
        refine Nat.lt_of_le_of_ne f1 fun e => hx ?_
        rw [e]; decide
      have := g2 hl
      rw [fI_pos (by omega)]
      have h1 := cast3 this
      omega
    · rcases g1 with ⟨k1, k2⟩ | ⟨k1, k2⟩
      · left
        subst k1
        refine ⟨rfl, fx_fin f0, ?_⟩
        unfold IsF
        rw [fI_pos (by omega)]
        have h1 := cast4 k2
        omega
      · exact .inr (.inl ⟨f0, k1⟩)
end Go.Proofs.YtccldiokpgjocaaGreatDoor
