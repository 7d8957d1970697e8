import Derived.Deep.DeepCutAuto
import Derived.Test.YtphlmmjlpbledaaGreatDoorK39
set_option linter.unusedSimpArgs false
set_option linter.unusedVariables false
namespace Go.Proofs.YtphlmmjlpbledaaGreatDoor
open Go.RowKit
set_option maxRecDepth 100000
theorem doneL (g : Nat) (s : ByteArray) (l : List UInt8) (w : World) (h : RdL w g s l) (hs : s.size ≤ 1000000) :
    Calls Tryz.prog 117 #[.pointer (some ⟨g, 0, none⟩)] w fun e w' => e = .returned (.bool (decide (l = []))) ∧ ∃ q, w' = w.drewN q := by
  obtain ⟨k, hk, hR, hl⟩ := h
  refine (done_any g s k w hR hk hs).mono fun _ _ ⟨h1, h2⟩ => ⟨?_, h2⟩
  rw [h1]
  congr 2
  rw [Bool.eq_iff_iff]
  simp only [decide_eq_true_eq]
  constructor
  · intro e; rw [← hl, e]; exact drop_end
  · intro e
    rw [← hl] at e
    have := congrArg List.length e
    rw [List.length_drop, size_data] at this
    simp at this
    omega
theorem list1_run (W : World) (a0 a1 a2 a3 : Value) : (Instr.buildSlice 113 1 #[(0, .agg #[a0, a1, a2, a3])]).run Tryz.prog W =
    .ok (.slice (some ⟨W.heap.size, 0, none⟩) 1 1) (W.alloc (.cells #[a0, a1, a2, a3] 117 (0, 0))) := by kernel_rfl
theorem list2_run (W : World) (a0 a1 a2 a3 b0 b1 b2 b3 : Value) : (Instr.buildSlice 113 2 #[(0, .agg #[a0, a1, a2, a3]), (1, .agg #[b0, b1, b2, b3])]).run Tryz.prog W =
    .ok (.slice (some ⟨W.heap.size, 0, none⟩) 2 2) (W.alloc (.cells #[a0, a1, a2, a3, b0, b1, b2, b3] 117 (0, 0))) := by kernel_rfl
theorem take_c (g : Nat) (s : ByteArray) (b : UInt8) (c : Int) (hc : ((b.toNat : Nat) : Int) = c) (l : List UInt8) (w : World) (h : RdL w g s l) (hs : s.size ≤ 1000000) :
    Calls Tryz.prog 115 #[.pointer (some ⟨g, 0, none⟩), .int .u8 c] w (RetTake w g s b l) := by
  subst hc
  exact take_any g s b l w h hs
abbrev rw0 (w : World) (s : ByteArray) : World := w.alloc (.cells #[.string s, .int .i64 0] 165)
theorem rw0_rd (w : World) (s : ByteArray) : RdL (rw0 w s) w.heap.size s s.data.toList := ⟨0, Nat.zero_le _, heap_alloc_new _ _, rfl⟩
theorem rw0_below {w W : World} {s : ByteArray} (h : (rw0 w s).grownBy W (some w.heap.size)) : Below w.heap.size w W :=
  (below_alloc w _).trans ⟨h.os, h.tape, h.output, by have := h.size; exact this, fun k hk => h.block k (by simp; omega) (by simp; omega)⟩
theorem mkJ (s : ByteArray) (hs : s.size ≤ 100000) : Hid (∀ g l W, RdL W g s l → Calls Tryz.prog 116 #[.pointer (some ⟨g, 0, none⟩)] W (RetMag W g s l)) ∧ Hid (∀ g (b : UInt8) (c : Int), ((UInt8.toNat b : Nat) : Int) = c → ∀ l W, RdL W g s l → Calls Tryz.prog 115 #[.pointer (some ⟨g, 0, none⟩), .int .u8 c] W (RetTake W g s b l)) ∧ Hid (∀ g l W, RdL W g s l → Calls Tryz.prog 117 #[.pointer (some ⟨g, 0, none⟩)] W fun e w' => e = .returned (.bool (decide (l = []))) ∧ ∃ q, w' = W.drewN q) :=
  ⟨fun g l W h => magnitude_any g s l W h hs, fun g b c hc l W h => take_c g s b c hc l W h (by omega), fun g l W h => doneL g s l W h (by omega)⟩
set_option maxHeartbeats 1000000 in
theorem rn_none (s : ByteArray) (a b a2 b2 : Nat) (r r2 : List UInt8) (w : World) (hs : s.size ≤ 100000) (h1 : pMag (off 45 s.data.toList) = none) :
    Calls Tryz.prog 53 #[.string s] w (RetParts w s.data.toList) := by
  obtain ⟨HM, HT, HN⟩ := mkJ s hs
  have H0 := hid (show pNum s.data.toList = none by simp [pNum, h1])
  have H1 := hid h1
  clear h1 hs
  go_enter Tryz.func53, Tryz.ntmps53
  go_wp2_with fail
  refine (HT.out w.heap.size 45 45 rfl _ _ (rw0_rd w s)).mono ?_
  rintro e w2 ⟨rfl, hr, hg⟩
  go_wp2_with fail
  refine (HM.out _ _ _ hr).mono ?_
  rintro e w3 ⟨hg3, hm⟩
  rw [H1.out] at hm
  obtain ⟨A1, n1, c1, A2, n2, c2, rfl⟩ := hm
  have HG := hid (rw0_below (grown_trans hg hg3))
  clear hr hg hg3
  go_wp2
  go_ret2
  exact ⟨below_trans HG.out (below_alloc _ _), by rw [H0.out]; exact ⟨_, rfl⟩⟩
set_option maxHeartbeats 1000000 in
theorem rn_it (s : ByteArray) (a b a2 b2 : Nat) (r r2 : List UInt8) (w : World) (hs : s.size ≤ 100000) (h1 : pMag (off 45 s.data.toList) = some (a, b, r)) (h2 : isHd 105 r = true) (h3 : r.tail = []) :
    Calls Tryz.prog 53 #[.string s] w (RetParts w s.data.toList) := by
  obtain ⟨HM, HT, HN⟩ := mkJ s hs
  have H0 := hid (show pNum s.data.toList = some [⟨a, b, isHd 45 s.data.toList, true⟩] by simp [pNum, h1, h2, h3])
  have ho : off 105 r = r.tail := by simp [off, h2]
  have HDD := hid (show decide (r.tail = []) = true by simp [h3])
  have H1 := hid h1
  clear h1 hs
  go_enter Tryz.func53, Tryz.ntmps53
  go_wp2_with fail
  refine (HT.out w.heap.size 45 45 rfl _ _ (rw0_rd w s)).mono ?_
  rintro e w2 ⟨rfl, hr, hg⟩
  go_wp2_with fail
  refine (HM.out _ _ _ hr).mono ?_
  rintro e w3 ⟨hg3, hm⟩
  rw [H1.out] at hm
  obtain ⟨va, vb, rfl, ha, hb, hr3⟩ := hm
  obtain ⟨A1, n1, c1, rfl, -⟩ := ha.ex
  obtain ⟨A2, n2, c2, rfl, -⟩ := hb.ex
  have HF3 := hid (Fst.make hr3 ha hb (grown_trans hg hg3) (isHd 45 s.data.toList))
  clear ha hb hr3 hr hg hg3
  clear h3
  go_wp2_with fail
  refine (HT.out _ 105 105 rfl _ _ HF3.out.rd).mono ?_
  rintro e w4 ⟨rfl, hr, hg⟩
  rw [h2]
  rw [ho] at hr
  have HF4 := hid (HF3.out.step hr hg)
  clear hr hg
  obtain ⟨f0, f1, f2, f3, y0, y1, y2, y3⟩ := HF4.out.pb.facts
  go_upto_region 9 with fail
  obtain ⟨W5, hW5⟩ : ∃ W, W = w4.setCell ⟨w3.heap.size, 3, none⟩ (.bool true) := ⟨_, rfl⟩
  rw [← hW5]
  have HF5 := hid (show Fst (rw0 w s) W5 w.heap.size s r.tail w3.heap.size (.slice A1 n1 c1) (.slice A2 n2 c2) a b (isHd 45 s.data.toList) true by rw [hW5]; exact HF4.out.set3 true)
  clear hW5 f0 f1 f2 f3 y0 y1 y2 y3
  refine region_lin [.val (kIs (.agg #[.slice A1 n1 c1, .slice A2 n2 c2, .bool (isHd 45 s.data.toList), .bool true])), .val (kP1 ⟨a, b, isHd 45 s.data.toList, true⟩), .val (kIs (.pointer (some ⟨w.heap.size, 0, none⟩))), .val (kIs (.bool (decide (r.tail = [])))), .val (kP1 ⟨a, b, isHd 45 s.data.toList, true⟩), .val (kIs (.bool (decide (r.tail = []))))]
    (by kernel_rfl) (by kernel_rfl) (by kernel_rfl) (by kernel_rfl) (by kernel_rfl) ⟨Stab.b (stab_is _), stab_P1 _, Stab.b (stab_is _), Stab.b (stab_is _), stab_P1 _, Stab.b (stab_is _), trivial⟩ (by simp) ⟨?_, ?_, ?_, ?_, ?_, ?_, trivial⟩ ?_
  · intro ts W hb hB hp
    intro K hK
    simp only [fillT, Nat.zero_add, Nat.reduceAdd, sA, sB, sC] at hK ⊢
    have HK := hid hK
    clear hK hp
    refine ⟨?_⟩
    refine wp_load_row _ _ rfl w3.heap.size rfl _ _ (0, 0) _ ((HF5.out.below hb).pb) Tryz.underlying117 rfl (by kernel_rfl) ?_
    exact HK.out _ _ rfl rfB
  · intro ts W hb hB hp
    have h0 : ts 0 = _ := hp 0 (by kernel_rfl)
    intro K hK
    simp only [fillT, Nat.zero_add, Nat.reduceAdd, sA, sB, sC, h0] at hK ⊢
    have HK := hid hK
    clear hK hp
    refine ⟨?_⟩
    exact wp_buildSlice rfl (by simp [Act.eval]) (list1_run W _ _ _ _) (HK.out _ _ ⟨_, _, _, rfl, heap_alloc_new _ _, (HF5.out.below hb).na.below (below_alloc _ _), (HF5.out.below hb).nb.below (below_alloc _ _)⟩ (below_alloc _ _))
  · intro ts W hb hB hp
    intro K hK
    simp only [fillT, Nat.zero_add, Nat.reduceAdd, sA, sB, sC] at hK ⊢
    have HK := hid hK
    clear hK hp
    refine ⟨?_⟩
    go_simp
    exact HK.out _ _ rfl rfB
  · intro ts W hb hB hp
    have h2 : ts 2 = _ := hp 2 (by kernel_rfl)
    intro K hK
    simp only [fillT, Nat.zero_add, Nat.reduceAdd, sA, sB, sC, h2] at hK ⊢
    have HK := hid hK
    clear hK hp
    refine ⟨?_⟩
    go_simp
    refine (HN.out _ _ _ (HF5.out.below hb).rd).mono ?_
    rintro e W9 ⟨rfl, q, rfl⟩
    exact HK.out _ _ rfl (below_drewN _ _)
  · intro ts W hb hB hp
    have h1 := hp 1 (by kernel_rfl)
    intro K hK
    simp only [fillT, Nat.zero_add, Nat.reduceAdd, sA, sB, sC] at hK ⊢
    have HK := hid hK
    clear hK hp
    refine ⟨?_⟩
    go_simp
    exact HK.out _ _ h1 rfB
  · intro ts W hb hB hp
    have h3 : ts 3 = _ := hp 3 (by kernel_rfl)
    intro K hK
    simp only [fillT, Nat.zero_add, Nat.reduceAdd, sA, sB, sC, h3] at hK ⊢
    have HK := hid hK
    clear hK hp
    refine ⟨?_⟩
    go_simp
    exact HK.out _ _ rfl rfB
  intro ts W7 hb7 hh hap
  have h4 : kP1 _ (ts 4) W7 := hh 4 (by simp)
  have h5 := held_is (hh 5 (by simp)) rfl
  simp only [fillT, Nat.zero_add, Nat.reduceAdd, sA, sB, sC, h5]
  have H4 := hid h4
  have HG := hid ((rw0_below HF5.out.gr).trans (hb7.mono (by have := (rw0_below HF5.out.gr).size; exact this)))
  clear hh hap h5 h4 hb7
  generalize ts 4 = v4 at *
  generalize ts 0 = u0_7 at *
  generalize ts 1 = u1_7 at *
  generalize ts 2 = u2_7 at *
  generalize ts 3 = u3_7 at *
  go_wp2
  go_ret2
  exact ⟨HG.out, by rw [H0.out]; exact ⟨v4, by rw [← HDD.out]; rfl, H4.out⟩⟩
set_option maxHeartbeats 1000000 in
theorem rn_if (s : ByteArray) (a b a2 b2 : Nat) (r r2 : List UInt8) (w : World) (hs : s.size ≤ 100000) (h1 : pMag (off 45 s.data.toList) = some (a, b, r)) (h2 : isHd 105 r = true) (h3 : ¬ r.tail = []) :
    Calls Tryz.prog 53 #[.string s] w (RetParts w s.data.toList) := by
  obtain ⟨HM, HT, HN⟩ := mkJ s hs
  have H0 := hid (show pNum s.data.toList = none by simp [pNum, h1, h2, h3])
  have ho : off 105 r = r.tail := by simp [off, h2]
  have HDD := hid (show decide (r.tail = []) = false by simp [h3])
  have H1 := hid h1
  clear h1 hs
  go_enter Tryz.func53, Tryz.ntmps53
  go_wp2_with fail
  refine (HT.out w.heap.size 45 45 rfl _ _ (rw0_rd w s)).mono ?_
  rintro e w2 ⟨rfl, hr, hg⟩
  go_wp2_with fail
  refine (HM.out _ _ _ hr).mono ?_
  rintro e w3 ⟨hg3, hm⟩
  rw [H1.out] at hm
  obtain ⟨va, vb, rfl, ha, hb, hr3⟩ := hm
  obtain ⟨A1, n1, c1, rfl, -⟩ := ha.ex
  obtain ⟨A2, n2, c2, rfl, -⟩ := hb.ex
  have HF3 := hid (Fst.make hr3 ha hb (grown_trans hg hg3) (isHd 45 s.data.toList))
  clear ha hb hr3 hr hg hg3
  clear h3
  go_wp2_with fail
  refine (HT.out _ 105 105 rfl _ _ HF3.out.rd).mono ?_
  rintro e w4 ⟨rfl, hr, hg⟩
  rw [h2]
  rw [ho] at hr
  have HF4 := hid (HF3.out.step hr hg)
  clear hr hg
  obtain ⟨f0, f1, f2, f3, y0, y1, y2, y3⟩ := HF4.out.pb.facts
  go_upto_region 9 with fail
  obtain ⟨W5, hW5⟩ : ∃ W, W = w4.setCell ⟨w3.heap.size, 3, none⟩ (.bool true) := ⟨_, rfl⟩
  rw [← hW5]
  have HF5 := hid (show Fst (rw0 w s) W5 w.heap.size s r.tail w3.heap.size (.slice A1 n1 c1) (.slice A2 n2 c2) a b (isHd 45 s.data.toList) true by rw [hW5]; exact HF4.out.set3 true)
  clear hW5 f0 f1 f2 f3 y0 y1 y2 y3
  refine region_lin [.val (kIs (.agg #[.slice A1 n1 c1, .slice A2 n2 c2, .bool (isHd 45 s.data.toList), .bool true])), .val (kP1 ⟨a, b, isHd 45 s.data.toList, true⟩), .val (kIs (.pointer (some ⟨w.heap.size, 0, none⟩))), .val (kIs (.bool (decide (r.tail = [])))), .val (kP1 ⟨a, b, isHd 45 s.data.toList, true⟩), .val (kIs (.bool (decide (r.tail = []))))]
    (by kernel_rfl) (by kernel_rfl) (by kernel_rfl) (by kernel_rfl) (by kernel_rfl) ⟨Stab.b (stab_is _), stab_P1 _, Stab.b (stab_is _), Stab.b (stab_is _), stab_P1 _, Stab.b (stab_is _), trivial⟩ (by simp) ⟨?_, ?_, ?_, ?_, ?_, ?_, trivial⟩ ?_
  · intro ts W hb hB hp
    intro K hK
    simp only [fillT, Nat.zero_add, Nat.reduceAdd, sA, sB, sC] at hK ⊢
    have HK := hid hK
    clear hK hp
    refine ⟨?_⟩
    refine wp_load_row _ _ rfl w3.heap.size rfl _ _ (0, 0) _ ((HF5.out.below hb).pb) Tryz.underlying117 rfl (by kernel_rfl) ?_
    exact HK.out _ _ rfl rfB
  · intro ts W hb hB hp
    have h0 : ts 0 = _ := hp 0 (by kernel_rfl)
    intro K hK
    simp only [fillT, Nat.zero_add, Nat.reduceAdd, sA, sB, sC, h0] at hK ⊢
    have HK := hid hK
    clear hK hp
    refine ⟨?_⟩
    exact wp_buildSlice rfl (by simp [Act.eval]) (list1_run W _ _ _ _) (HK.out _ _ ⟨_, _, _, rfl, heap_alloc_new _ _, (HF5.out.below hb).na.below (below_alloc _ _), (HF5.out.below hb).nb.below (below_alloc _ _)⟩ (below_alloc _ _))
  · intro ts W hb hB hp
    intro K hK
    simp only [fillT, Nat.zero_add, Nat.reduceAdd, sA, sB, sC] at hK ⊢
    have HK := hid hK
    clear hK hp
    refine ⟨?_⟩
    go_simp
    exact HK.out _ _ rfl rfB
  · intro ts W hb hB hp
    have h2 : ts 2 = _ := hp 2 (by kernel_rfl)
    intro K hK
    simp only [fillT, Nat.zero_add, Nat.reduceAdd, sA, sB, sC, h2] at hK ⊢
    have HK := hid hK
    clear hK hp
    refine ⟨?_⟩
    go_simp
    refine (HN.out _ _ _ (HF5.out.below hb).rd).mono ?_
    rintro e W9 ⟨rfl, q, rfl⟩
    exact HK.out _ _ rfl (below_drewN _ _)
  · intro ts W hb hB hp
    have h1 := hp 1 (by kernel_rfl)
    intro K hK
    simp only [fillT, Nat.zero_add, Nat.reduceAdd, sA, sB, sC] at hK ⊢
    have HK := hid hK
    clear hK hp
    refine ⟨?_⟩
    go_simp
    exact HK.out _ _ h1 rfB
  · intro ts W hb hB hp
    have h3 : ts 3 = _ := hp 3 (by kernel_rfl)
    intro K hK
    simp only [fillT, Nat.zero_add, Nat.reduceAdd, sA, sB, sC, h3] at hK ⊢
    have HK := hid hK
    clear hK hp
    refine ⟨?_⟩
    go_simp
    exact HK.out _ _ rfl rfB
  intro ts W7 hb7 hh hap
  have h4 : kP1 _ (ts 4) W7 := hh 4 (by simp)
  have h5 := held_is (hh 5 (by simp)) rfl
  simp only [fillT, Nat.zero_add, Nat.reduceAdd, sA, sB, sC, h5]
  have H4 := hid h4
  have HG := hid ((rw0_below HF5.out.gr).trans (hb7.mono (by have := (rw0_below HF5.out.gr).size; exact this)))
  clear hh hap h5 h4 hb7
  generalize ts 4 = v4 at *
  generalize ts 0 = u0_7 at *
  generalize ts 1 = u1_7 at *
  generalize ts 2 = u2_7 at *
  generalize ts 3 = u3_7 at *
  go_wp2
  go_ret2
  exact ⟨HG.out, by rw [H0.out]; exact ⟨v4, by rw [← HDD.out]; rfl⟩⟩
set_option maxHeartbeats 1000000 in
theorem rn_re (s : ByteArray) (a b a2 b2 : Nat) (r r2 : List UInt8) (w : World) (hs : s.size ≤ 100000) (h1 : pMag (off 45 s.data.toList) = some (a, b, r)) (h3 : r = []) :
    Calls Tryz.prog 53 #[.string s] w (RetParts w s.data.toList) := by
  obtain ⟨HM, HT, HN⟩ := mkJ s hs
  have H0 := hid (show pNum s.data.toList = some [⟨a, b, isHd 45 s.data.toList, false⟩] by simp [pNum, h1, h3, isHd])
  have h2 : isHd 105 r = false := by rw [h3]; rfl
  have ho : off 105 r = r := by simp [off, h2]
  have hd : decide (r = []) = true := by simp [h3]
  have H1 := hid h1
  clear h1 hs
  go_enter Tryz.func53, Tryz.ntmps53
  go_wp2_with fail
  refine (HT.out w.heap.size 45 45 rfl _ _ (rw0_rd w s)).mono ?_
  rintro e w2 ⟨rfl, hr, hg⟩
  go_wp2_with fail
  refine (HM.out _ _ _ hr).mono ?_
  rintro e w3 ⟨hg3, hm⟩
  rw [H1.out] at hm
  obtain ⟨va, vb, rfl, ha, hb, hr3⟩ := hm
  obtain ⟨A1, n1, c1, rfl, -⟩ := ha.ex
  obtain ⟨A2, n2, c2, rfl, -⟩ := hb.ex
  have HF3 := hid (Fst.make hr3 ha hb (grown_trans hg hg3) (isHd 45 s.data.toList))
  clear ha hb hr3 hr hg hg3
  clear h3
  go_wp2_with fail
  refine (HT.out _ 105 105 rfl _ _ HF3.out.rd).mono ?_
  rintro e w4 ⟨rfl, hr, hg⟩
  rw [h2]
  rw [ho] at hr
  have HF4 := hid (HF3.out.step hr hg)
  clear hr hg
  go_wp2_with fail
  refine (HN.out _ _ _ HF4.out.rd).mono ?_
  rintro e w5 ⟨rfl, q, rfl⟩
  rw [hd]
  have HF5 := hid (HF4.out.below (below_drewN w4 q))
  generalize w4.drewN q = w5 at *
  obtain ⟨f0, f1, f2, f3, y0, y1, y2, y3⟩ := HF5.out.pb.facts
  go_wp2
  go_ret2
  exact ⟨below_trans (rw0_below HF5.out.gr) (below_alloc _ _), by rw [H0.out]; exact ⟨_, rfl, _, _, _, rfl, heap_alloc_new _ _, HF5.out.na.below (below_alloc _ _), HF5.out.nb.below (below_alloc _ _)⟩⟩
set_option maxHeartbeats 1000000 in
theorem rn_nosign (s : ByteArray) (a b a2 b2 : Nat) (r r2 : List UInt8) (w : World) (hs : s.size ≤ 100000) (h1 : pMag (off 45 s.data.toList) = some (a, b, r)) (h2 : isHd 105 r = false) (h3 : ¬ r = []) (h4 : isHd 45 r = false) (h5 : isHd 43 r = false) :
    Calls Tryz.prog 53 #[.string s] w (RetParts w s.data.toList) := by
  obtain ⟨HM, HT, HN⟩ := mkJ s hs
  have H0 := hid (show pNum s.data.toList = none by simp [pNum, h1, h2, h3, h4, h5])
  have ho : off 105 r = r := by simp [off, h2]
  have HDD := hid (show decide (r = []) = false by simp [h3])
  have H2 := hid h2
  have ho1 : off 45 r = r := by simp [off, h4]
  have ho2 : off 43 r = r := by simp [off, h5]
  have HS1 := hid h4
  have HS2 := hid h5
  have H1 := hid h1
  clear h1 hs
  go_enter Tryz.func53, Tryz.ntmps53
  go_wp2_with fail
  refine (HT.out w.heap.size 45 45 rfl _ _ (rw0_rd w s)).mono ?_
  rintro e w2 ⟨rfl, hr, hg⟩
  go_wp2_with fail
  refine (HM.out _ _ _ hr).mono ?_
  rintro e w3 ⟨hg3, hm⟩
  rw [H1.out] at hm
  obtain ⟨va, vb, rfl, ha, hb, hr3⟩ := hm
  obtain ⟨A1, n1, c1, rfl, -⟩ := ha.ex
  obtain ⟨A2, n2, c2, rfl, -⟩ := hb.ex
  have HF3 := hid (Fst.make hr3 ha hb (grown_trans hg hg3) (isHd 45 s.data.toList))
  clear ha hb hr3 hr hg hg3
  clear h2 h3 h4 h5
  go_wp2_with fail
  refine (HT.out _ 105 105 rfl _ _ HF3.out.rd).mono ?_
  rintro e w4 ⟨rfl, hr, hg⟩
  rw [H2.out]
  rw [ho] at hr
  have HF4 := hid (HF3.out.step hr hg)
  clear hr hg
  go_wp2_with fail
  refine (HN.out _ _ _ HF4.out.rd).mono ?_
  rintro e w5 ⟨rfl, q, rfl⟩
  rw [HDD.out]
  have HF5 := hid (HF4.out.below (below_drewN w4 q))
  generalize w4.drewN q = w5 at *
  go_wp2_with fail
  refine (HT.out _ 45 45 rfl _ _ HF5.out.rd).mono ?_
  rintro e w6 ⟨rfl, hr, hg⟩
  rw [HS1.out]
  rw [ho1] at hr
  have HF6 := hid (HF5.out.step hr hg)
  clear hr hg
  go_wp2_with fail
  refine (HT.out _ 43 43 rfl _ _ HF6.out.rd).mono ?_
  rintro e w7 ⟨rfl, hr, hg⟩
  rw [HS2.out]
  rw [ho2] at hr
  have HF7 := hid (HF6.out.step hr hg)
  clear hr hg
  go_wp2
  go_ret2
  exact ⟨rw0_below HF7.out.gr, by rw [H0.out]; exact ⟨_, rfl⟩⟩
set_option maxHeartbeats 1000000 in
theorem rn_45_none (s : ByteArray) (a b a2 b2 : Nat) (r r2 : List UInt8) (w : World) (hs : s.size ≤ 100000) (h1 : pMag (off 45 s.data.toList) = some (a, b, r)) (h2 : isHd 105 r = false) (h3 : ¬ r = []) (h4 : isHd 45 r = true) (h6 : pMag r.tail = none) :
    Calls Tryz.prog 53 #[.string s] w (RetParts w s.data.toList) := by
  obtain ⟨HM, HT, HN⟩ := mkJ s hs
  have H0 := hid (show pNum s.data.toList = none by simp [pNum, h1, h2, h3, h4, h6])
  have ho : off 105 r = r := by simp [off, h2]
  have HDD := hid (show decide (r = []) = false by simp [h3])
  have H2 := hid h2
  have ho1 : off 45 r = r.tail := by simp [off, h4]
  have HS1 := hid h4
  have H6 := hid h6
  have H1 := hid h1
  clear h1 hs
  go_enter Tryz.func53, Tryz.ntmps53
  go_wp2_with fail
  refine (HT.out w.heap.size 45 45 rfl _ _ (rw0_rd w s)).mono ?_
  rintro e w2 ⟨rfl, hr, hg⟩
  go_wp2_with fail
  refine (HM.out _ _ _ hr).mono ?_
  rintro e w3 ⟨hg3, hm⟩
  rw [H1.out] at hm
  obtain ⟨va, vb, rfl, ha, hb, hr3⟩ := hm
  obtain ⟨A1, n1, c1, rfl, -⟩ := ha.ex
  obtain ⟨A2, n2, c2, rfl, -⟩ := hb.ex
  have HF3 := hid (Fst.make hr3 ha hb (grown_trans hg hg3) (isHd 45 s.data.toList))
  clear ha hb hr3 hr hg hg3
  clear h2 h3 h4 h6
  go_wp2_with fail
  refine (HT.out _ 105 105 rfl _ _ HF3.out.rd).mono ?_
  rintro e w4 ⟨rfl, hr, hg⟩
  rw [H2.out]
  rw [ho] at hr
  have HF4 := hid (HF3.out.step hr hg)
  clear hr hg
  go_wp2_with fail
  refine (HN.out _ _ _ HF4.out.rd).mono ?_
  rintro e w5 ⟨rfl, q, rfl⟩
  rw [HDD.out]
  have HF5 := hid (HF4.out.below (below_drewN w4 q))
  generalize w4.drewN q = w5 at *
  go_wp2_with fail
  refine (HT.out _ 45 45 rfl _ _ HF5.out.rd).mono ?_
  rintro e w6 ⟨rfl, hr, hg⟩
  rw [HS1.out]
  rw [ho1] at hr
  have HF6 := hid (HF5.out.step hr hg)
  clear hr hg
  go_wp2_with fail
  refine (HM.out _ _ _ HF6.out.rd).mono ?_
  rintro e w8 ⟨hg, hm⟩
  rw [H6.out] at hm
  obtain ⟨A3, n3, c3, A4, n4, c4, rfl⟩ := hm
  have HG := hid (rw0_below (grown_trans HF6.out.gr hg))
  clear hg
  go_wp2
  go_ret2
  exact ⟨below_trans HG.out (below_alloc _ _), by rw [H0.out]; exact ⟨_, rfl⟩⟩
set_option maxHeartbeats 1000000 in
theorem rn_45_noi (s : ByteArray) (a b a2 b2 : Nat) (r r2 : List UInt8) (w : World) (hs : s.size ≤ 100000) (h1 : pMag (off 45 s.data.toList) = some (a, b, r)) (h2 : isHd 105 r = false) (h3 : ¬ r = []) (h4 : isHd 45 r = true) (h6 : pMag r.tail = some (a2, b2, r2)) (h7 : isHd 105 r2 = false) :
    Calls Tryz.prog 53 #[.string s] w (RetParts w s.data.toList) := by
  obtain ⟨HM, HT, HN⟩ := mkJ s hs
  have H0 := hid (show pNum s.data.toList = none by simp [pNum, h1, h2, h3, h4, h6, h7])
  have ho : off 105 r = r := by simp [off, h2]
  have HDD := hid (show decide (r = []) = false by simp [h3])
  have H2 := hid h2
  have ho1 : off 45 r = r.tail := by simp [off, h4]
  have HS1 := hid h4
  have H6 := hid h6
  have ho3 : off 105 r2 = r2 := by simp [off, h7]
  have H7 := hid h7
  have H1 := hid h1
  clear h1 hs
  go_enter Tryz.func53, Tryz.ntmps53
  go_wp2_with fail
  refine (HT.out w.heap.size 45 45 rfl _ _ (rw0_rd w s)).mono ?_
  rintro e w2 ⟨rfl, hr, hg⟩
  go_wp2_with fail
  refine (HM.out _ _ _ hr).mono ?_
  rintro e w3 ⟨hg3, hm⟩
  rw [H1.out] at hm
  obtain ⟨va, vb, rfl, ha, hb, hr3⟩ := hm
  obtain ⟨A1, n1, c1, rfl, -⟩ := ha.ex
  obtain ⟨A2, n2, c2, rfl, -⟩ := hb.ex
  have HF3 := hid (Fst.make hr3 ha hb (grown_trans hg hg3) (isHd 45 s.data.toList))
  clear ha hb hr3 hr hg hg3
  clear h2 h3 h4 h6 h7
  go_wp2_with fail
  refine (HT.out _ 105 105 rfl _ _ HF3.out.rd).mono ?_
  rintro e w4 ⟨rfl, hr, hg⟩
  rw [H2.out]
  rw [ho] at hr
  have HF4 := hid (HF3.out.step hr hg)
  clear hr hg
  go_wp2_with fail
  refine (HN.out _ _ _ HF4.out.rd).mono ?_
  rintro e w5 ⟨rfl, q, rfl⟩
  rw [HDD.out]
  have HF5 := hid (HF4.out.below (below_drewN w4 q))
  generalize w4.drewN q = w5 at *
  go_wp2_with fail
  refine (HT.out _ 45 45 rfl _ _ HF5.out.rd).mono ?_
  rintro e w6 ⟨rfl, hr, hg⟩
  rw [HS1.out]
  rw [ho1] at hr
  have HF6 := hid (HF5.out.step hr hg)
  clear hr hg
  go_wp2_with fail
  refine (HM.out _ _ _ HF6.out.rd).mono ?_
  rintro e w8 ⟨hg, hm⟩
  rw [H6.out] at hm
  obtain ⟨vc, vd, rfl, hc, hd, hr⟩ := hm
  obtain ⟨A3, n3, c3, rfl, -⟩ := hc.ex
  obtain ⟨A4, n4, c4, rfl, -⟩ := hd.ex
  have HF8 := hid (HF6.out.step hr hg)
  have HS9 := hid (Fst.make hr hc hd (grown_trans HF6.out.gr hg) false)
  have HF9 := hid (HF8.out.below (below_alloc w8 (.cells #[.slice A3 n3 c3, .slice A4 n4 c4, .bool false, .bool false] 117)))
  have HNE := hid (Nat.ne_of_lt HF8.out.pb.lt)
  clear hr hg hc hd
  go_wp2_with fail
  refine (HT.out _ 105 105 rfl _ _ HF9.out.rd).mono ?_
  rintro e w10 ⟨rfl, hr, hg⟩
  rw [H7.out]
  rw [ho3] at hr
  have HF10 := hid (HF9.out.step hr hg)
  have HS10 := hid (HS9.out.step hr hg)
  clear hr hg
  go_wp2
  go_ret2
  exact ⟨rw0_below HF10.out.gr, by rw [H0.out]; exact ⟨_, rfl⟩⟩
set_option maxHeartbeats 1000000 in
theorem rn_45_t (s : ByteArray) (a b a2 b2 : Nat) (r r2 : List UInt8) (w : World) (hs : s.size ≤ 100000) (h1 : pMag (off 45 s.data.toList) = some (a, b, r)) (h2 : isHd 105 r = false) (h3 : ¬ r = []) (h4 : isHd 45 r = true) (h6 : pMag r.tail = some (a2, b2, r2)) (h7 : isHd 105 r2 = true) (h8 : r2.tail = []) :
    Calls Tryz.prog 53 #[.string s] w (RetParts w s.data.toList) := by
  obtain ⟨HM, HT, HN⟩ := mkJ s hs
  have H0 := hid (show pNum s.data.toList = some [⟨a, b, isHd 45 s.data.toList, false⟩, ⟨a2, b2, true, true⟩] by simp [pNum, h1, h2, h3, h4, h6, h7, h8])
  have ho : off 105 r = r := by simp [off, h2]
  have HDD := hid (show decide (r = []) = false by simp [h3])
  have H2 := hid h2
  have ho1 : off 45 r = r.tail := by simp [off, h4]
  have HS1 := hid h4
  have H6 := hid h6
  have ho3 : off 105 r2 = r2.tail := by simp [off, h7]
  have H7 := hid h7
  have H8 := hid (show decide (r2.tail = []) = true by simp [h8])
  have H1 := hid h1
  clear h1 hs
  go_enter Tryz.func53, Tryz.ntmps53
  go_wp2_with fail
  refine (HT.out w.heap.size 45 45 rfl _ _ (rw0_rd w s)).mono ?_
  rintro e w2 ⟨rfl, hr, hg⟩
  go_wp2_with fail
  refine (HM.out _ _ _ hr).mono ?_
  rintro e w3 ⟨hg3, hm⟩
  rw [H1.out] at hm
  obtain ⟨va, vb, rfl, ha, hb, hr3⟩ := hm
  obtain ⟨A1, n1, c1, rfl, -⟩ := ha.ex
  obtain ⟨A2, n2, c2, rfl, -⟩ := hb.ex
  have HF3 := hid (Fst.make hr3 ha hb (grown_trans hg hg3) (isHd 45 s.data.toList))
  clear ha hb hr3 hr hg hg3
  clear h2 h3 h4 h6 h7 h8
  go_wp2_with fail
  refine (HT.out _ 105 105 rfl _ _ HF3.out.rd).mono ?_
  rintro e w4 ⟨rfl, hr, hg⟩
  rw [H2.out]
  rw [ho] at hr
  have HF4 := hid (HF3.out.step hr hg)
  clear hr hg
  go_wp2_with fail
  refine (HN.out _ _ _ HF4.out.rd).mono ?_
  rintro e w5 ⟨rfl, q, rfl⟩
  rw [HDD.out]
  have HF5 := hid (HF4.out.below (below_drewN w4 q))
  generalize w4.drewN q = w5 at *
  go_wp2_with fail
  refine (HT.out _ 45 45 rfl _ _ HF5.out.rd).mono ?_
  rintro e w6 ⟨rfl, hr, hg⟩
  rw [HS1.out]
  rw [ho1] at hr
  have HF6 := hid (HF5.out.step hr hg)
  clear hr hg
  go_wp2_with fail
  refine (HM.out _ _ _ HF6.out.rd).mono ?_
  rintro e w8 ⟨hg, hm⟩
  rw [H6.out] at hm
  obtain ⟨vc, vd, rfl, hc, hd, hr⟩ := hm
  obtain ⟨A3, n3, c3, rfl, -⟩ := hc.ex
  obtain ⟨A4, n4, c4, rfl, -⟩ := hd.ex
  have HF8 := hid (HF6.out.step hr hg)
  have HS9 := hid (Fst.make hr hc hd (grown_trans HF6.out.gr hg) false)
  have HF9 := hid (HF8.out.below (below_alloc w8 (.cells #[.slice A3 n3 c3, .slice A4 n4 c4, .bool false, .bool false] 117)))
  have HNE := hid (Nat.ne_of_lt HF8.out.pb.lt)
  clear hr hg hc hd
  go_wp2_with fail
  refine (HT.out _ 105 105 rfl _ _ HF9.out.rd).mono ?_
  rintro e w10 ⟨rfl, hr, hg⟩
  rw [H7.out]
  rw [ho3] at hr
  have HF10 := hid (HF9.out.step hr hg)
  have HS10 := hid (HS9.out.step hr hg)
  clear hr hg
  obtain ⟨f0, f1, f2, f3, y0, y1, y2, y3⟩ := HS10.out.pb.facts
  go_upto_region 19 with fail
  obtain ⟨W5, hW5⟩ : ∃ W, W = (w10.setCell ⟨w8.heap.size, 2, none⟩ (.bool true)).setCell ⟨w8.heap.size, 3, none⟩ (.bool true) := ⟨_, rfl⟩
  rw [← hW5]
  have HF5 := hid (show Fst (rw0 w s) W5 w.heap.size s r2.tail w3.heap.size (.slice A1 n1 c1) (.slice A2 n2 c2) a b (isHd 45 s.data.toList) false by rw [hW5]; exact (HF10.out.other HS10.out HNE.out true 2 (.inl rfl)).other (HS10.out.set2 true) HNE.out true 3 (.inr rfl))
  have HS5 := hid (show Fst (rw0 w s) W5 w.heap.size s r2.tail w8.heap.size (.slice A3 n3 c3) (.slice A4 n4 c4) a2 b2 true true by rw [hW5]; exact (HS10.out.set2 true).set3 true)
  clear hW5 f0 f1 f2 f3 y0 y1 y2 y3 HF8 HF9 HS9 HF10 HS10 HF4
  refine region_lin [.val (kIs (.agg #[.slice A1 n1 c1, .slice A2 n2 c2, .bool (isHd 45 s.data.toList), .bool false])), .val (kIs (.agg #[.slice A3 n3 c3, .slice A4 n4 c4, .bool true, .bool true])), .val (kP2 ⟨a, b, isHd 45 s.data.toList, false⟩ ⟨a2, b2, true, true⟩), .val (kIs (.pointer (some ⟨w.heap.size, 0, none⟩))), .val (kIs (.bool (decide (r2.tail = [])))), .val (kP2 ⟨a, b, isHd 45 s.data.toList, false⟩ ⟨a2, b2, true, true⟩), .val (kIs (.bool (decide (r2.tail = []))))]
    (by kernel_rfl) (by kernel_rfl) (by kernel_rfl) (by kernel_rfl) (by kernel_rfl) ⟨Stab.b (stab_is _), Stab.b (stab_is _), stab_P2 _ _, Stab.b (stab_is _), Stab.b (stab_is _), stab_P2 _ _, Stab.b (stab_is _), trivial⟩ (by simp) ⟨?_, ?_, ?_, ?_, ?_, ?_, ?_, trivial⟩ ?_
  · intro ts W hb hB hp
    intro K hK
    simp only [fillT, Nat.zero_add, Nat.reduceAdd, sA, sB, sC] at hK ⊢
    have HK := hid hK
    clear hK hp
    refine ⟨?_⟩
    refine wp_load_row _ _ rfl w3.heap.size rfl _ _ (0, 0) _ ((HF5.out.below hb).pb) Tryz.underlying117 rfl (by kernel_rfl) ?_
    exact HK.out _ _ rfl rfB
  · intro ts W hb hB hp
    intro K hK
    simp only [fillT, Nat.zero_add, Nat.reduceAdd, sA, sB, sC] at hK ⊢
    have HK := hid hK
    clear hK hp
    refine ⟨?_⟩
    refine wp_load_row _ _ rfl w8.heap.size rfl _ _ (0, 0) _ ((HS5.out.below hb).pb) Tryz.underlying117 rfl (by kernel_rfl) ?_
    exact HK.out _ _ rfl rfB
  · intro ts W hb hB hp
    have h0 : ts 0 = _ := hp 0 (by kernel_rfl)
    have h1 : ts 1 = _ := hp 1 (by kernel_rfl)
    intro K hK
    simp only [fillT, Nat.zero_add, Nat.reduceAdd, sA, sB, sC, h0, h1] at hK ⊢
    have HK := hid hK
    clear hK hp
    refine ⟨?_⟩
    exact wp_buildSlice rfl (by simp [Act.eval]) (list2_run W _ _ _ _ _ _ _ _) (HK.out _ _ ⟨_, _, _, _, _, rfl, heap_alloc_new _ _, (HF5.out.below hb).na.below (below_alloc _ _), (HF5.out.below hb).nb.below (below_alloc _ _), (HS5.out.below hb).na.below (below_alloc _ _), (HS5.out.below hb).nb.below (below_alloc _ _)⟩ (below_alloc _ _))
  · intro ts W hb hB hp
    intro K hK
    simp only [fillT, Nat.zero_add, Nat.reduceAdd, sA, sB, sC] at hK ⊢
    have HK := hid hK
    clear hK hp
    refine ⟨?_⟩
    go_simp
    exact HK.out _ _ rfl rfB
  · intro ts W hb hB hp
    have h3 : ts 3 = _ := hp 3 (by kernel_rfl)
    intro K hK
    simp only [fillT, Nat.zero_add, Nat.reduceAdd, sA, sB, sC, h3] at hK ⊢
    have HK := hid hK
    clear hK hp
    refine ⟨?_⟩
    go_simp
    refine (HN.out _ _ _ (HF5.out.below hb).rd).mono ?_
    rintro e W9 ⟨rfl, q, rfl⟩
    exact HK.out _ _ rfl (below_drewN _ _)
  · intro ts W hb hB hp
    have h2 := hp 2 (by kernel_rfl)
    intro K hK
    simp only [fillT, Nat.zero_add, Nat.reduceAdd, sA, sB, sC] at hK ⊢
    have HK := hid hK
    clear hK hp
    refine ⟨?_⟩
    go_simp
    exact HK.out _ _ h2 rfB
  · intro ts W hb hB hp
    have h4 : ts 4 = _ := hp 4 (by kernel_rfl)
    intro K hK
    simp only [fillT, Nat.zero_add, Nat.reduceAdd, sA, sB, sC, h4] at hK ⊢
    have HK := hid hK
    clear hK hp
    refine ⟨?_⟩
    go_simp
    exact HK.out _ _ rfl rfB
  intro ts W7 hb7 hh hap
  have h5 : kP2 _ _ (ts 5) W7 := hh 5 (by simp)
  have h6 := held_is (hh 6 (by simp)) rfl
  simp only [fillT, Nat.zero_add, Nat.reduceAdd, sA, sB, sC, h6]
  have H5 := hid h5
  have HG := hid ((rw0_below HF5.out.gr).trans (hb7.mono (by have := (rw0_below HF5.out.gr).size; exact this)))
  clear hh hap h6 h5 hb7
  generalize ts 5 = v5 at *
  generalize ts 0 = u0_7 at *
  generalize ts 1 = u1_7 at *
  generalize ts 2 = u2_7 at *
  generalize ts 3 = u3_7 at *
  generalize ts 4 = u4_7 at *
  go_wp2
  go_ret2
  exact ⟨HG.out, by rw [H0.out]; exact ⟨v5, by rw [← H8.out]; rfl, H5.out⟩⟩
set_option maxHeartbeats 1000000 in
theorem rn_45_f (s : ByteArray) (a b a2 b2 : Nat) (r r2 : List UInt8) (w : World) (hs : s.size ≤ 100000) (h1 : pMag (off 45 s.data.toList) = some (a, b, r)) (h2 : isHd 105 r = false) (h3 : ¬ r = []) (h4 : isHd 45 r = true) (h6 : pMag r.tail = some (a2, b2, r2)) (h7 : isHd 105 r2 = true) (h8 : ¬ r2.tail = []) :
    Calls Tryz.prog 53 #[.string s] w (RetParts w s.data.toList) := by
  obtain ⟨HM, HT, HN⟩ := mkJ s hs
  have H0 := hid (show pNum s.data.toList = none by simp [pNum, h1, h2, h3, h4, h6, h7, h8])
  have ho : off 105 r = r := by simp [off, h2]
  have HDD := hid (show decide (r = []) = false by simp [h3])
  have H2 := hid h2
  have ho1 : off 45 r = r.tail := by simp [off, h4]
  have HS1 := hid h4
  have H6 := hid h6
  have ho3 : off 105 r2 = r2.tail := by simp [off, h7]
  have H7 := hid h7
  have H8 := hid (show decide (r2.tail = []) = false by simp [h8])
  have H1 := hid h1
  clear h1 hs
  go_enter Tryz.func53, Tryz.ntmps53
  go_wp2_with fail
  refine (HT.out w.heap.size 45 45 rfl _ _ (rw0_rd w s)).mono ?_
  rintro e w2 ⟨rfl, hr, hg⟩
  go_wp2_with fail
  refine (HM.out _ _ _ hr).mono ?_
  rintro e w3 ⟨hg3, hm⟩
  rw [H1.out] at hm
  obtain ⟨va, vb, rfl, ha, hb, hr3⟩ := hm
  obtain ⟨A1, n1, c1, rfl, -⟩ := ha.ex
  obtain ⟨A2, n2, c2, rfl, -⟩ := hb.ex
  have HF3 := hid (Fst.make hr3 ha hb (grown_trans hg hg3) (isHd 45 s.data.toList))
  clear ha hb hr3 hr hg hg3
  clear h2 h3 h4 h6 h7 h8
  go_wp2_with fail
  refine (HT.out _ 105 105 rfl _ _ HF3.out.rd).mono ?_
  rintro e w4 ⟨rfl, hr, hg⟩
  rw [H2.out]
  rw [ho] at hr
  have HF4 := hid (HF3.out.step hr hg)
  clear hr hg
  go_wp2_with fail
  refine (HN.out _ _ _ HF4.out.rd).mono ?_
  rintro e w5 ⟨rfl, q, rfl⟩
  rw [HDD.out]
  have HF5 := hid (HF4.out.below (below_drewN w4 q))
  generalize w4.drewN q = w5 at *
  go_wp2_with fail
  refine (HT.out _ 45 45 rfl _ _ HF5.out.rd).mono ?_
  rintro e w6 ⟨rfl, hr, hg⟩
  rw [HS1.out]
  rw [ho1] at hr
  have HF6 := hid (HF5.out.step hr hg)
  clear hr hg
  go_wp2_with fail
  refine (HM.out _ _ _ HF6.out.rd).mono ?_
  rintro e w8 ⟨hg, hm⟩
  rw [H6.out] at hm
  obtain ⟨vc, vd, rfl, hc, hd, hr⟩ := hm
  obtain ⟨A3, n3, c3, rfl, -⟩ := hc.ex
  obtain ⟨A4, n4, c4, rfl, -⟩ := hd.ex
  have HF8 := hid (HF6.out.step hr hg)
  have HS9 := hid (Fst.make hr hc hd (grown_trans HF6.out.gr hg) false)
  have HF9 := hid (HF8.out.below (below_alloc w8 (.cells #[.slice A3 n3 c3, .slice A4 n4 c4, .bool false, .bool false] 117)))
  have HNE := hid (Nat.ne_of_lt HF8.out.pb.lt)
  clear hr hg hc hd
  go_wp2_with fail
  refine (HT.out _ 105 105 rfl _ _ HF9.out.rd).mono ?_
  rintro e w10 ⟨rfl, hr, hg⟩
  rw [H7.out]
  rw [ho3] at hr
  have HF10 := hid (HF9.out.step hr hg)
  have HS10 := hid (HS9.out.step hr hg)
  clear hr hg
  obtain ⟨f0, f1, f2, f3, y0, y1, y2, y3⟩ := HS10.out.pb.facts
  go_upto_region 19 with fail
  obtain ⟨W5, hW5⟩ : ∃ W, W = (w10.setCell ⟨w8.heap.size, 2, none⟩ (.bool true)).setCell ⟨w8.heap.size, 3, none⟩ (.bool true) := ⟨_, rfl⟩
  rw [← hW5]
  have HF5 := hid (show Fst (rw0 w s) W5 w.heap.size s r2.tail w3.heap.size (.slice A1 n1 c1) (.slice A2 n2 c2) a b (isHd 45 s.data.toList) false by rw [hW5]; exact (HF10.out.other HS10.out HNE.out true 2 (.inl rfl)).other (HS10.out.set2 true) HNE.out true 3 (.inr rfl))
  have HS5 := hid (show Fst (rw0 w s) W5 w.heap.size s r2.tail w8.heap.size (.slice A3 n3 c3) (.slice A4 n4 c4) a2 b2 true true by rw [hW5]; exact (HS10.out.set2 true).set3 true)
  clear hW5 f0 f1 f2 f3 y0 y1 y2 y3 HF8 HF9 HS9 HF10 HS10 HF4
  refine region_lin [.val (kIs (.agg #[.slice A1 n1 c1, .slice A2 n2 c2, .bool (isHd 45 s.data.toList), .bool false])), .val (kIs (.agg #[.slice A3 n3 c3, .slice A4 n4 c4, .bool true, .bool true])), .val (kP2 ⟨a, b, isHd 45 s.data.toList, false⟩ ⟨a2, b2, true, true⟩), .val (kIs (.pointer (some ⟨w.heap.size, 0, none⟩))), .val (kIs (.bool (decide (r2.tail = [])))), .val (kP2 ⟨a, b, isHd 45 s.data.toList, false⟩ ⟨a2, b2, true, true⟩), .val (kIs (.bool (decide (r2.tail = []))))]
    (by kernel_rfl) (by kernel_rfl) (by kernel_rfl) (by kernel_rfl) (by kernel_rfl) ⟨Stab.b (stab_is _), Stab.b (stab_is _), stab_P2 _ _, Stab.b (stab_is _), Stab.b (stab_is _), stab_P2 _ _, Stab.b (stab_is _), trivial⟩ (by simp) ⟨?_, ?_, ?_, ?_, ?_, ?_, ?_, trivial⟩ ?_
  · intro ts W hb hB hp
    intro K hK
    simp only [fillT, Nat.zero_add, Nat.reduceAdd, sA, sB, sC] at hK ⊢
    have HK := hid hK
    clear hK hp
    refine ⟨?_⟩
    refine wp_load_row _ _ rfl w3.heap.size rfl _ _ (0, 0) _ ((HF5.out.below hb).pb) Tryz.underlying117 rfl (by kernel_rfl) ?_
    exact HK.out _ _ rfl rfB
  · intro ts W hb hB hp
    intro K hK
    simp only [fillT, Nat.zero_add, Nat.reduceAdd, sA, sB, sC] at hK ⊢
    have HK := hid hK
    clear hK hp
    refine ⟨?_⟩
    refine wp_load_row _ _ rfl w8.heap.size rfl _ _ (0, 0) _ ((HS5.out.below hb).pb) Tryz.underlying117 rfl (by kernel_rfl) ?_
    exact HK.out _ _ rfl rfB
  · intro ts W hb hB hp
    have h0 : ts 0 = _ := hp 0 (by kernel_rfl)
    have h1 : ts 1 = _ := hp 1 (by kernel_rfl)
    intro K hK
    simp only [fillT, Nat.zero_add, Nat.reduceAdd, sA, sB, sC, h0, h1] at hK ⊢
    have HK := hid hK
    clear hK hp
    refine ⟨?_⟩
    exact wp_buildSlice rfl (by simp [Act.eval]) (list2_run W _ _ _ _ _ _ _ _) (HK.out _ _ ⟨_, _, _, _, _, rfl, heap_alloc_new _ _, (HF5.out.below hb).na.below (below_alloc _ _), (HF5.out.below hb).nb.below (below_alloc _ _), (HS5.out.below hb).na.below (below_alloc _ _), (HS5.out.below hb).nb.below (below_alloc _ _)⟩ (below_alloc _ _))
  · intro ts W hb hB hp
    intro K hK
    simp only [fillT, Nat.zero_add, Nat.reduceAdd, sA, sB, sC] at hK ⊢
    have HK := hid hK
    clear hK hp
    refine ⟨?_⟩
    go_simp
    exact HK.out _ _ rfl rfB
  · intro ts W hb hB hp
    have h3 : ts 3 = _ := hp 3 (by kernel_rfl)
    intro K hK
    simp only [fillT, Nat.zero_add, Nat.reduceAdd, sA, sB, sC, h3] at hK ⊢
    have HK := hid hK
    clear hK hp
    refine ⟨?_⟩
    go_simp
    refine (HN.out _ _ _ (HF5.out.below hb).rd).mono ?_
    rintro e W9 ⟨rfl, q, rfl⟩
    exact HK.out _ _ rfl (below_drewN _ _)
  · intro ts W hb hB hp
    have h2 := hp 2 (by kernel_rfl)
    intro K hK
    simp only [fillT, Nat.zero_add, Nat.reduceAdd, sA, sB, sC] at hK ⊢
    have HK := hid hK
    clear hK hp
    refine ⟨?_⟩
    go_simp
    exact HK.out _ _ h2 rfB
  · intro ts W hb hB hp
    have h4 : ts 4 = _ := hp 4 (by kernel_rfl)
    intro K hK
    simp only [fillT, Nat.zero_add, Nat.reduceAdd, sA, sB, sC, h4] at hK ⊢
    have HK := hid hK
    clear hK hp
    refine ⟨?_⟩
    go_simp
    exact HK.out _ _ rfl rfB
  intro ts W7 hb7 hh hap
  have h5 : kP2 _ _ (ts 5) W7 := hh 5 (by simp)
  have h6 := held_is (hh 6 (by simp)) rfl
  simp only [fillT, Nat.zero_add, Nat.reduceAdd, sA, sB, sC, h6]
  have H5 := hid h5
  have HG := hid ((rw0_below HF5.out.gr).trans (hb7.mono (by have := (rw0_below HF5.out.gr).size; exact this)))
  clear hh hap h6 h5 hb7
  generalize ts 5 = v5 at *
  generalize ts 0 = u0_7 at *
  generalize ts 1 = u1_7 at *
  generalize ts 2 = u2_7 at *
  generalize ts 3 = u3_7 at *
  generalize ts 4 = u4_7 at *
  go_wp2
  go_ret2
  exact ⟨HG.out, by rw [H0.out]; exact ⟨v5, by rw [← H8.out]; rfl⟩⟩
set_option maxHeartbeats 1000000 in
theorem rn_43_none (s : ByteArray) (a b a2 b2 : Nat) (r r2 : List UInt8) (w : World) (hs : s.size ≤ 100000) (h1 : pMag (off 45 s.data.toList) = some (a, b, r)) (h2 : isHd 105 r = false) (h3 : ¬ r = []) (h4 : isHd 45 r = false) (h5 : isHd 43 r = true) (h6 : pMag r.tail = none) :
    Calls Tryz.prog 53 #[.string s] w (RetParts w s.data.toList) := by
  obtain ⟨HM, HT, HN⟩ := mkJ s hs
  have H0 := hid (show pNum s.data.toList = none by simp [pNum, h1, h2, h3, h4, h5, h6])
  have ho : off 105 r = r := by simp [off, h2]
  have HDD := hid (show decide (r = []) = false by simp [h3])
  have H2 := hid h2
  have ho1 : off 45 r = r := by simp [off, h4]
  have ho2 : off 43 r = r.tail := by simp [off, h5]
  have HS1 := hid h4
  have HS2 := hid h5
  have H6 := hid h6
  have H1 := hid h1
  clear h1 hs
  go_enter Tryz.func53, Tryz.ntmps53
  go_wp2_with fail
  refine (HT.out w.heap.size 45 45 rfl _ _ (rw0_rd w s)).mono ?_
  rintro e w2 ⟨rfl, hr, hg⟩
  go_wp2_with fail
  refine (HM.out _ _ _ hr).mono ?_
  rintro e w3 ⟨hg3, hm⟩
  rw [H1.out] at hm
  obtain ⟨va, vb, rfl, ha, hb, hr3⟩ := hm
  obtain ⟨A1, n1, c1, rfl, -⟩ := ha.ex
  obtain ⟨A2, n2, c2, rfl, -⟩ := hb.ex
  have HF3 := hid (Fst.make hr3 ha hb (grown_trans hg hg3) (isHd 45 s.data.toList))
  clear ha hb hr3 hr hg hg3
  clear h2 h3 h4 h5 h6
  go_wp2_with fail
  refine (HT.out _ 105 105 rfl _ _ HF3.out.rd).mono ?_
  rintro e w4 ⟨rfl, hr, hg⟩
  rw [H2.out]
  rw [ho] at hr
  have HF4 := hid (HF3.out.step hr hg)
  clear hr hg
  go_wp2_with fail
  refine (HN.out _ _ _ HF4.out.rd).mono ?_
  rintro e w5 ⟨rfl, q, rfl⟩
  rw [HDD.out]
  have HF5 := hid (HF4.out.below (below_drewN w4 q))
  generalize w4.drewN q = w5 at *
  go_wp2_with fail
  refine (HT.out _ 45 45 rfl _ _ HF5.out.rd).mono ?_
  rintro e w6 ⟨rfl, hr, hg⟩
  rw [HS1.out]
  rw [ho1] at hr
  have HF6 := hid (HF5.out.step hr hg)
  clear hr hg
  go_wp2_with fail
  refine (HT.out _ 43 43 rfl _ _ HF6.out.rd).mono ?_
  rintro e w7 ⟨rfl, hr, hg⟩
  rw [HS2.out]
  rw [ho2] at hr
  have HF7 := hid (HF6.out.step hr hg)
  clear hr hg
  go_wp2_with fail
  refine (HM.out _ _ _ HF7.out.rd).mono ?_
  rintro e w8 ⟨hg, hm⟩
  rw [H6.out] at hm
  obtain ⟨A3, n3, c3, A4, n4, c4, rfl⟩ := hm
  have HG := hid (rw0_below (grown_trans HF7.out.gr hg))
  clear hg
  go_wp2
  go_ret2
  exact ⟨below_trans HG.out (below_alloc _ _), by rw [H0.out]; exact ⟨_, rfl⟩⟩
set_option maxHeartbeats 1000000 in
theorem rn_43_noi (s : ByteArray) (a b a2 b2 : Nat) (r r2 : List UInt8) (w : World) (hs : s.size ≤ 100000) (h1 : pMag (off 45 s.data.toList) = some (a, b, r)) (h2 : isHd 105 r = false) (h3 : ¬ r = []) (h4 : isHd 45 r = false) (h5 : isHd 43 r = true) (h6 : pMag r.tail = some (a2, b2, r2)) (h7 : isHd 105 r2 = false) :
    Calls Tryz.prog 53 #[.string s] w (RetParts w s.data.toList) := by
  obtain ⟨HM, HT, HN⟩ := mkJ s hs
  have H0 := hid (show pNum s.data.toList = none by simp [pNum, h1, h2, h3, h4, h5, h6, h7])
  have ho : off 105 r = r := by simp [off, h2]
  have HDD := hid (show decide (r = []) = false by simp [h3])
  have H2 := hid h2
  have ho1 : off 45 r = r := by simp [off, h4]
  have ho2 : off 43 r = r.tail := by simp [off, h5]
  have HS1 := hid h4
  have HS2 := hid h5
  have H6 := hid h6
  have ho3 : off 105 r2 = r2 := by simp [off, h7]
  have H7 := hid h7
  have H1 := hid h1
  clear h1 hs
  go_enter Tryz.func53, Tryz.ntmps53
  go_wp2_with fail
  refine (HT.out w.heap.size 45 45 rfl _ _ (rw0_rd w s)).mono ?_
  rintro e w2 ⟨rfl, hr, hg⟩
  go_wp2_with fail
  refine (HM.out _ _ _ hr).mono ?_
  rintro e w3 ⟨hg3, hm⟩
  rw [H1.out] at hm
  obtain ⟨va, vb, rfl, ha, hb, hr3⟩ := hm
  obtain ⟨A1, n1, c1, rfl, -⟩ := ha.ex
  obtain ⟨A2, n2, c2, rfl, -⟩ := hb.ex
  have HF3 := hid (Fst.make hr3 ha hb (grown_trans hg hg3) (isHd 45 s.data.toList))
  clear ha hb hr3 hr hg hg3
  clear h2 h3 h4 h5 h6 h7
  go_wp2_with fail
  refine (HT.out _ 105 105 rfl _ _ HF3.out.rd).mono ?_
  rintro e w4 ⟨rfl, hr, hg⟩
  rw [H2.out]
  rw [ho] at hr
  have HF4 := hid (HF3.out.step hr hg)
  clear hr hg
  go_wp2_with fail
  refine (HN.out _ _ _ HF4.out.rd).mono ?_
  rintro e w5 ⟨rfl, q, rfl⟩
  rw [HDD.out]
  have HF5 := hid (HF4.out.below (below_drewN w4 q))
  generalize w4.drewN q = w5 at *
  go_wp2_with fail
  refine (HT.out _ 45 45 rfl _ _ HF5.out.rd).mono ?_
  rintro e w6 ⟨rfl, hr, hg⟩
  rw [HS1.out]
  rw [ho1] at hr
  have HF6 := hid (HF5.out.step hr hg)
  clear hr hg
  go_wp2_with fail
  refine (HT.out _ 43 43 rfl _ _ HF6.out.rd).mono ?_
  rintro e w7 ⟨rfl, hr, hg⟩
  rw [HS2.out]
  rw [ho2] at hr
  have HF7 := hid (HF6.out.step hr hg)
  clear hr hg
  go_wp2_with fail
  refine (HM.out _ _ _ HF7.out.rd).mono ?_
  rintro e w8 ⟨hg, hm⟩
  rw [H6.out] at hm
  obtain ⟨vc, vd, rfl, hc, hd, hr⟩ := hm
  obtain ⟨A3, n3, c3, rfl, -⟩ := hc.ex
  obtain ⟨A4, n4, c4, rfl, -⟩ := hd.ex
  have HF8 := hid (HF7.out.step hr hg)
  have HS9 := hid (Fst.make hr hc hd (grown_trans HF7.out.gr hg) false)
  have HF9 := hid (HF8.out.below (below_alloc w8 (.cells #[.slice A3 n3 c3, .slice A4 n4 c4, .bool false, .bool false] 117)))
  have HNE := hid (Nat.ne_of_lt HF8.out.pb.lt)
  clear hr hg hc hd
  go_wp2_with fail
  refine (HT.out _ 105 105 rfl _ _ HF9.out.rd).mono ?_
  rintro e w10 ⟨rfl, hr, hg⟩
  rw [H7.out]
  rw [ho3] at hr
  have HF10 := hid (HF9.out.step hr hg)
  have HS10 := hid (HS9.out.step hr hg)
  clear hr hg
  go_wp2
  go_ret2
  exact ⟨rw0_below HF10.out.gr, by rw [H0.out]; exact ⟨_, rfl⟩⟩
set_option maxHeartbeats 1000000 in
theorem rn_43_t (s : ByteArray) (a b a2 b2 : Nat) (r r2 : List UInt8) (w : World) (hs : s.size ≤ 100000) (h1 : pMag (off 45 s.data.toList) = some (a, b, r)) (h2 : isHd 105 r = false) (h3 : ¬ r = []) (h4 : isHd 45 r = false) (h5 : isHd 43 r = true) (h6 : pMag r.tail = some (a2, b2, r2)) (h7 : isHd 105 r2 = true) (h8 : r2.tail = []) :
    Calls Tryz.prog 53 #[.string s] w (RetParts w s.data.toList) := by
  obtain ⟨HM, HT, HN⟩ := mkJ s hs
  have H0 := hid (show pNum s.data.toList = some [⟨a, b, isHd 45 s.data.toList, false⟩, ⟨a2, b2, false, true⟩] by simp [pNum, h1, h2, h3, h4, h5, h6, h7, h8])
  have ho : off 105 r = r := by simp [off, h2]
  have HDD := hid (show decide (r = []) = false by simp [h3])
  have H2 := hid h2
  have ho1 : off 45 r = r := by simp [off, h4]
  have ho2 : off 43 r = r.tail := by simp [off, h5]
  have HS1 := hid h4
  have HS2 := hid h5
  have H6 := hid h6
  have ho3 : off 105 r2 = r2.tail := by simp [off, h7]
  have H7 := hid h7
  have H8 := hid (show decide (r2.tail = []) = true by simp [h8])
  have H1 := hid h1
  clear h1 hs
  go_enter Tryz.func53, Tryz.ntmps53
  go_wp2_with fail
  refine (HT.out w.heap.size 45 45 rfl _ _ (rw0_rd w s)).mono ?_
  rintro e w2 ⟨rfl, hr, hg⟩
  go_wp2_with fail
  refine (HM.out _ _ _ hr).mono ?_
  rintro e w3 ⟨hg3, hm⟩
  rw [H1.out] at hm
  obtain ⟨va, vb, rfl, ha, hb, hr3⟩ := hm
  obtain ⟨A1, n1, c1, rfl, -⟩ := ha.ex
  obtain ⟨A2, n2, c2, rfl, -⟩ := hb.ex
  have HF3 := hid (Fst.make hr3 ha hb (grown_trans hg hg3) (isHd 45 s.data.toList))
  clear ha hb hr3 hr hg hg3
  clear h2 h3 h4 h5 h6 h7 h8
  go_wp2_with fail
  refine (HT.out _ 105 105 rfl _ _ HF3.out.rd).mono ?_
  rintro e w4 ⟨rfl, hr, hg⟩
  rw [H2.out]
  rw [ho] at hr
  have HF4 := hid (HF3.out.step hr hg)
  clear hr hg
  go_wp2_with fail
  refine (HN.out _ _ _ HF4.out.rd).mono ?_
  rintro e w5 ⟨rfl, q, rfl⟩
  rw [HDD.out]
  have HF5 := hid (HF4.out.below (below_drewN w4 q))
  generalize w4.drewN q = w5 at *
  go_wp2_with fail
  refine (HT.out _ 45 45 rfl _ _ HF5.out.rd).mono ?_
  rintro e w6 ⟨rfl, hr, hg⟩
  rw [HS1.out]
  rw [ho1] at hr
  have HF6 := hid (HF5.out.step hr hg)
  clear hr hg
  go_wp2_with fail
  refine (HT.out _ 43 43 rfl _ _ HF6.out.rd).mono ?_
  rintro e w7 ⟨rfl, hr, hg⟩
  rw [HS2.out]
  rw [ho2] at hr
  have HF7 := hid (HF6.out.step hr hg)
  clear hr hg
  go_wp2_with fail
  refine (HM.out _ _ _ HF7.out.rd).mono ?_
  rintro e w8 ⟨hg, hm⟩
  rw [H6.out] at hm
  obtain ⟨vc, vd, rfl, hc, hd, hr⟩ := hm
  obtain ⟨A3, n3, c3, rfl, -⟩ := hc.ex
  obtain ⟨A4, n4, c4, rfl, -⟩ := hd.ex
  have HF8 := hid (HF7.out.step hr hg)
  have HS9 := hid (Fst.make hr hc hd (grown_trans HF7.out.gr hg) false)
  have HF9 := hid (HF8.out.below (below_alloc w8 (.cells #[.slice A3 n3 c3, .slice A4 n4 c4, .bool false, .bool false] 117)))
  have HNE := hid (Nat.ne_of_lt HF8.out.pb.lt)
  clear hr hg hc hd
  go_wp2_with fail
  refine (HT.out _ 105 105 rfl _ _ HF9.out.rd).mono ?_
  rintro e w10 ⟨rfl, hr, hg⟩
  rw [H7.out]
  rw [ho3] at hr
  have HF10 := hid (HF9.out.step hr hg)
  have HS10 := hid (HS9.out.step hr hg)
  clear hr hg
  obtain ⟨f0, f1, f2, f3, y0, y1, y2, y3⟩ := HS10.out.pb.facts
  go_upto_region 19 with fail
  obtain ⟨W5, hW5⟩ : ∃ W, W = (w10.setCell ⟨w8.heap.size, 2, none⟩ (.bool false)).setCell ⟨w8.heap.size, 3, none⟩ (.bool true) := ⟨_, rfl⟩
  rw [← hW5]
  have HF5 := hid (show Fst (rw0 w s) W5 w.heap.size s r2.tail w3.heap.size (.slice A1 n1 c1) (.slice A2 n2 c2) a b (isHd 45 s.data.toList) false by rw [hW5]; exact (HF10.out.other HS10.out HNE.out false 2 (.inl rfl)).other (HS10.out.set2 false) HNE.out true 3 (.inr rfl))
  have HS5 := hid (show Fst (rw0 w s) W5 w.heap.size s r2.tail w8.heap.size (.slice A3 n3 c3) (.slice A4 n4 c4) a2 b2 false true by rw [hW5]; exact (HS10.out.set2 false).set3 true)
  clear hW5 f0 f1 f2 f3 y0 y1 y2 y3 HF8 HF9 HS9 HF10 HS10 HF4
  refine region_lin [.val (kIs (.agg #[.slice A1 n1 c1, .slice A2 n2 c2, .bool (isHd 45 s.data.toList), .bool false])), .val (kIs (.agg #[.slice A3 n3 c3, .slice A4 n4 c4, .bool false, .bool true])), .val (kP2 ⟨a, b, isHd 45 s.data.toList, false⟩ ⟨a2, b2, false, true⟩), .val (kIs (.pointer (some ⟨w.heap.size, 0, none⟩))), .val (kIs (.bool (decide (r2.tail = [])))), .val (kP2 ⟨a, b, isHd 45 s.data.toList, false⟩ ⟨a2, b2, false, true⟩), .val (kIs (.bool (decide (r2.tail = []))))]
    (by kernel_rfl) (by kernel_rfl) (by kernel_rfl) (by kernel_rfl) (by kernel_rfl) ⟨Stab.b (stab_is _), Stab.b (stab_is _), stab_P2 _ _, Stab.b (stab_is _), Stab.b (stab_is _), stab_P2 _ _, Stab.b (stab_is _), trivial⟩ (by simp) ⟨?_, ?_, ?_, ?_, ?_, ?_, ?_, trivial⟩ ?_
  · intro ts W hb hB hp
    intro K hK
    simp only [fillT, Nat.zero_add, Nat.reduceAdd, sA, sB, sC] at hK ⊢
    have HK := hid hK
    clear hK hp
    refine ⟨?_⟩
    refine wp_load_row _ _ rfl w3.heap.size rfl _ _ (0, 0) _ ((HF5.out.below hb).pb) Tryz.underlying117 rfl (by kernel_rfl) ?_
    exact HK.out _ _ rfl rfB
  · intro ts W hb hB hp
    intro K hK
    simp only [fillT, Nat.zero_add, Nat.reduceAdd, sA, sB, sC] at hK ⊢
    have HK := hid hK
    clear hK hp
    refine ⟨?_⟩
    refine wp_load_row _ _ rfl w8.heap.size rfl _ _ (0, 0) _ ((HS5.out.below hb).pb) Tryz.underlying117 rfl (by kernel_rfl) ?_
    exact HK.out _ _ rfl rfB
  · intro ts W hb hB hp
    have h0 : ts 0 = _ := hp 0 (by kernel_rfl)
    have h1 : ts 1 = _ := hp 1 (by kernel_rfl)
    intro K hK
    simp only [fillT, Nat.zero_add, Nat.reduceAdd, sA, sB, sC, h0, h1] at hK ⊢
    have HK := hid hK
    clear hK hp
    refine ⟨?_⟩
    exact wp_buildSlice rfl (by simp [Act.eval]) (list2_run W _ _ _ _ _ _ _ _) (HK.out _ _ ⟨_, _, _, _, _, rfl, heap_alloc_new _ _, (HF5.out.below hb).na.below (below_alloc _ _), (HF5.out.below hb).nb.below (below_alloc _ _), (HS5.out.below hb).na.below (below_alloc _ _), (HS5.out.below hb).nb.below (below_alloc _ _)⟩ (below_alloc _ _))
  · intro ts W hb hB hp
    intro K hK
    simp only [fillT, Nat.zero_add, Nat.reduceAdd, sA, sB, sC] at hK ⊢
    have HK := hid hK
    clear hK hp
    refine ⟨?_⟩
    go_simp
    exact HK.out _ _ rfl rfB
  · intro ts W hb hB hp
    have h3 : ts 3 = _ := hp 3 (by kernel_rfl)
    intro K hK
    simp only [fillT, Nat.zero_add, Nat.reduceAdd, sA, sB, sC, h3] at hK ⊢
    have HK := hid hK
    clear hK hp
    refine ⟨?_⟩
    go_simp
    refine (HN.out _ _ _ (HF5.out.below hb).rd).mono ?_
    rintro e W9 ⟨rfl, q, rfl⟩
    exact HK.out _ _ rfl (below_drewN _ _)
  · intro ts W hb hB hp
    have h2 := hp 2 (by kernel_rfl)
    intro K hK
    simp only [fillT, Nat.zero_add, Nat.reduceAdd, sA, sB, sC] at hK ⊢
    have HK := hid hK
    clear hK hp
    refine ⟨?_⟩
    go_simp
    exact HK.out _ _ h2 rfB
  · intro ts W hb hB hp
    have h4 : ts 4 = _ := hp 4 (by kernel_rfl)
    intro K hK
    simp only [fillT, Nat.zero_add, Nat.reduceAdd, sA, sB, sC, h4] at hK ⊢
    have HK := hid hK
    clear hK hp
    refine ⟨?_⟩
    go_simp
    exact HK.out _ _ rfl rfB
  intro ts W7 hb7 hh hap
  have h5 : kP2 _ _ (ts 5) W7 := hh 5 (by simp)
  have h6 := held_is (hh 6 (by simp)) rfl
  simp only [fillT, Nat.zero_add, Nat.reduceAdd, sA, sB, sC, h6]
  have H5 := hid h5
  have HG := hid ((rw0_below HF5.out.gr).trans (hb7.mono (by have := (rw0_below HF5.out.gr).size; exact this)))
  clear hh hap h6 h5 hb7
  generalize ts 5 = v5 at *
  generalize ts 0 = u0_7 at *
  generalize ts 1 = u1_7 at *
  generalize ts 2 = u2_7 at *
  generalize ts 3 = u3_7 at *
  generalize ts 4 = u4_7 at *
  go_wp2
  go_ret2
  exact ⟨HG.out, by rw [H0.out]; exact ⟨v5, by rw [← H8.out]; rfl, H5.out⟩⟩
set_option maxHeartbeats 1000000 in
theorem rn_43_f (s : ByteArray) (a b a2 b2 : Nat) (r r2 : List UInt8) (w : World) (hs : s.size ≤ 100000) (h1 : pMag (off 45 s.data.toList) = some (a, b, r)) (h2 : isHd 105 r = false) (h3 : ¬ r = []) (h4 : isHd 45 r = false) (h5 : isHd 43 r = true) (h6 : pMag r.tail = some (a2, b2, r2)) (h7 : isHd 105 r2 = true) (h8 : ¬ r2.tail = []) :
    Calls Tryz.prog 53 #[.string s] w (RetParts w s.data.toList) := by
  obtain ⟨HM, HT, HN⟩ := mkJ s hs
  have H0 := hid (show pNum s.data.toList = none by simp [pNum, h1, h2, h3, h4, h5, h6, h7, h8])
  have ho : off 105 r = r := by simp [off, h2]
  have HDD := hid (show decide (r = []) = false by simp [h3])
  have H2 := hid h2
  have ho1 : off 45 r = r := by simp [off, h4]
  have ho2 : off 43 r = r.tail := by simp [off, h5]
  have HS1 := hid h4
  have HS2 := hid h5
  have H6 := hid h6
  have ho3 : off 105 r2 = r2.tail := by simp [off, h7]
  have H7 := hid h7
  have H8 := hid (show decide (r2.tail = []) = false by simp [h8])
  have H1 := hid h1
  clear h1 hs
  go_enter Tryz.func53, Tryz.ntmps53
  go_wp2_with fail
  refine (HT.out w.heap.size 45 45 rfl _ _ (rw0_rd w s)).mono ?_
  rintro e w2 ⟨rfl, hr, hg⟩
  go_wp2_with fail
  refine (HM.out _ _ _ hr).mono ?_
  rintro e w3 ⟨hg3, hm⟩
  rw [H1.out] at hm
  obtain ⟨va, vb, rfl, ha, hb, hr3⟩ := hm
  obtain ⟨A1, n1, c1, rfl, -⟩ := ha.ex
  obtain ⟨A2, n2, c2, rfl, -⟩ := hb.ex
  have HF3 := hid (Fst.make hr3 ha hb (grown_trans hg hg3) (isHd 45 s.data.toList))
  clear ha hb hr3 hr hg hg3
  clear h2 h3 h4 h5 h6 h7 h8
  go_wp2_with fail
  refine (HT.out _ 105 105 rfl _ _ HF3.out.rd).mono ?_
  rintro e w4 ⟨rfl, hr, hg⟩
  rw [H2.out]
  rw [ho] at hr
  have HF4 := hid (HF3.out.step hr hg)
  clear hr hg
  go_wp2_with fail
  refine (HN.out _ _ _ HF4.out.rd).mono ?_
  rintro e w5 ⟨rfl, q, rfl⟩
  rw [HDD.out]
  have HF5 := hid (HF4.out.below (below_drewN w4 q))
  generalize w4.drewN q = w5 at *
  go_wp2_with fail
  refine (HT.out _ 45 45 rfl _ _ HF5.out.rd).mono ?_
  rintro e w6 ⟨rfl, hr, hg⟩
  rw [HS1.out]
  rw [ho1] at hr
  have HF6 := hid (HF5.out.step hr hg)
  clear hr hg
  go_wp2_with fail
  refine (HT.out _ 43 43 rfl _ _ HF6.out.rd).mono ?_
  rintro e w7 ⟨rfl, hr, hg⟩
  rw [HS2.out]
  rw [ho2] at hr
  have HF7 := hid (HF6.out.step hr hg)
  clear hr hg
  go_wp2_with fail
  refine (HM.out _ _ _ HF7.out.rd).mono ?_
  rintro e w8 ⟨hg, hm⟩
  rw [H6.out] at hm
  obtain ⟨vc, vd, rfl, hc, hd, hr⟩ := hm
  obtain ⟨A3, n3, c3, rfl, -⟩ := hc.ex
  obtain ⟨A4, n4, c4, rfl, -⟩ := hd.ex
  have HF8 := hid (HF7.out.step hr hg)
  have HS9 := hid (Fst.make hr hc hd (grown_trans HF7.out.gr hg) false)
  have HF9 := hid (HF8.out.below (below_alloc w8 (.cells #[.slice A3 n3 c3, .slice A4 n4 c4, .bool false, .bool false] 117)))
  have HNE := hid (Nat.ne_of_lt HF8.out.pb.lt)
  clear hr hg hc hd
  go_wp2_with fail
  refine (HT.out _ 105 105 rfl _ _ HF9.out.rd).mono ?_
  rintro e w10 ⟨rfl, hr, hg⟩
  rw [H7.out]
  rw [ho3] at hr
  have HF10 := hid (HF9.out.step hr hg)
  have HS10 := hid (HS9.out.step hr hg)
  clear hr hg
  obtain ⟨f0, f1, f2, f3, y0, y1, y2, y3⟩ := HS10.out.pb.facts
  go_upto_region 19 with fail
  obtain ⟨W5, hW5⟩ : ∃ W, W = (w10.setCell ⟨w8.heap.size, 2, none⟩ (.bool false)).setCell ⟨w8.heap.size, 3, none⟩ (.bool true) := ⟨_, rfl⟩
  rw [← hW5]
  have HF5 := hid (show Fst (rw0 w s) W5 w.heap.size s r2.tail w3.heap.size (.slice A1 n1 c1) (.slice A2 n2 c2) a b (isHd 45 s.data.toList) false by rw [hW5]; exact (HF10.out.other HS10.out HNE.out false 2 (.inl rfl)).other (HS10.out.set2 false) HNE.out true 3 (.inr rfl))
  have HS5 := hid (show Fst (rw0 w s) W5 w.heap.size s r2.tail w8.heap.size (.slice A3 n3 c3) (.slice A4 n4 c4) a2 b2 false true by rw [hW5]; exact (HS10.out.set2 false).set3 true)
  clear hW5 f0 f1 f2 f3 y0 y1 y2 y3 HF8 HF9 HS9 HF10 HS10 HF4
  refine region_lin [.val (kIs (.agg #[.slice A1 n1 c1, .slice A2 n2 c2, .bool (isHd 45 s.data.toList), .bool false])), .val (kIs (.agg #[.slice A3 n3 c3, .slice A4 n4 c4, .bool false, .bool true])), .val (kP2 ⟨a, b, isHd 45 s.data.toList, false⟩ ⟨a2, b2, false, true⟩), .val (kIs (.pointer (some ⟨w.heap.size, 0, none⟩))), .val (kIs (.bool (decide (r2.tail = [])))), .val (kP2 ⟨a, b, isHd 45 s.data.toList, false⟩ ⟨a2, b2, false, true⟩), .val (kIs (.bool (decide (r2.tail = []))))]
    (by kernel_rfl) (by kernel_rfl) (by kernel_rfl) (by kernel_rfl) (by kernel_rfl) ⟨Stab.b (stab_is _), Stab.b (stab_is _), stab_P2 _ _, Stab.b (stab_is _), Stab.b (stab_is _), stab_P2 _ _, Stab.b (stab_is _), trivial⟩ (by simp) ⟨?_, ?_, ?_, ?_, ?_, ?_, ?_, trivial⟩ ?_
  · intro ts W hb hB hp
    intro K hK
    simp only [fillT, Nat.zero_add, Nat.reduceAdd, sA, sB, sC] at hK ⊢
    have HK := hid hK
    clear hK hp
    refine ⟨?_⟩
    refine wp_load_row _ _ rfl w3.heap.size rfl _ _ (0, 0) _ ((HF5.out.below hb).pb) Tryz.underlying117 rfl (by kernel_rfl) ?_
    exact HK.out _ _ rfl rfB
  · intro ts W hb hB hp
    intro K hK
    simp only [fillT, Nat.zero_add, Nat.reduceAdd, sA, sB, sC] at hK ⊢
    have HK := hid hK
    clear hK hp
    refine ⟨?_⟩
    refine wp_load_row _ _ rfl w8.heap.size rfl _ _ (0, 0) _ ((HS5.out.below hb).pb) Tryz.underlying117 rfl (by kernel_rfl) ?_
    exact HK.out _ _ rfl rfB
  · intro ts W hb hB hp
    have h0 : ts 0 = _ := hp 0 (by kernel_rfl)
    have h1 : ts 1 = _ := hp 1 (by kernel_rfl)
    intro K hK
    simp only [fillT, Nat.zero_add, Nat.reduceAdd, sA, sB, sC, h0, h1] at hK ⊢
    have HK := hid hK
    clear hK hp
    refine ⟨?_⟩
    exact wp_buildSlice rfl (by simp [Act.eval]) (list2_run W _ _ _ _ _ _ _ _) (HK.out _ _ ⟨_, _, _, _, _, rfl, heap_alloc_new _ _, (HF5.out.below hb).na.below (below_alloc _ _), (HF5.out.below hb).nb.below (below_alloc _ _), (HS5.out.below hb).na.below (below_alloc _ _), (HS5.out.below hb).nb.below (below_alloc _ _)⟩ (below_alloc _ _))
  · intro ts W hb hB hp
    intro K hK
    simp only [fillT, Nat.zero_add, Nat.reduceAdd, sA, sB, sC] at hK ⊢
    have HK := hid hK
    clear hK hp
    refine ⟨?_⟩
    go_simp
    exact HK.out _ _ rfl rfB
  · intro ts W hb hB hp
    have h3 : ts 3 = _ := hp 3 (by kernel_rfl)
    intro K hK
    simp only [fillT, Nat.zero_add, Nat.reduceAdd, sA, sB, sC, h3] at hK ⊢
    have HK := hid hK
    clear hK hp
    refine ⟨?_⟩
    go_simp
    refine (HN.out _ _ _ (HF5.out.below hb).rd).mono ?_
    rintro e W9 ⟨rfl, q, rfl⟩
    exact HK.out _ _ rfl (below_drewN _ _)
  · intro ts W hb hB hp
    have h2 := hp 2 (by kernel_rfl)
    intro K hK
    simp only [fillT, Nat.zero_add, Nat.reduceAdd, sA, sB, sC] at hK ⊢
    have HK := hid hK
    clear hK hp
    refine ⟨?_⟩
    go_simp
    exact HK.out _ _ h2 rfB
  · intro ts W hb hB hp
    have h4 : ts 4 = _ := hp 4 (by kernel_rfl)
    intro K hK
    simp only [fillT, Nat.zero_add, Nat.reduceAdd, sA, sB, sC, h4] at hK ⊢
    have HK := hid hK
    clear hK hp
    refine ⟨?_⟩
    go_simp
    exact HK.out _ _ rfl rfB
  intro ts W7 hb7 hh hap
  have h5 : kP2 _ _ (ts 5) W7 := hh 5 (by simp)
  have h6 := held_is (hh 6 (by simp)) rfl
  simp only [fillT, Nat.zero_add, Nat.reduceAdd, sA, sB, sC, h6]
  have H5 := hid h5
  have HG := hid ((rw0_below HF5.out.gr).trans (hb7.mono (by have := (rw0_below HF5.out.gr).size; exact this)))
  clear hh hap h6 h5 hb7
  generalize ts 5 = v5 at *
  generalize ts 0 = u0_7 at *
  generalize ts 1 = u1_7 at *
  generalize ts 2 = u2_7 at *
  generalize ts 3 = u3_7 at *
  generalize ts 4 = u4_7 at *
  go_wp2
  go_ret2
  exact ⟨HG.out, by rw [H0.out]; exact ⟨v5, by rw [← H8.out]; rfl⟩⟩
end Go.Proofs.YtphlmmjlpbledaaGreatDoor
