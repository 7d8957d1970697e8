/- Walks of matrices of numbers: Adjoint. -/
import Derived.Test.YtmlkpnfjgifgfaaGreatDoorG36
set_option linter.unusedSimpArgs false
set_option linter.unusedVariables false
namespace Go.Proofs.YtmlkpnfjgifgfaaGreatDoor
open Go.RowKit
set_option maxRecDepth 100000

/-- The conjugate transpose. -/
def adjM (F : Nat → Nat → Cx) : Nat → Nat → Cx := fun i j => (F j i).conj
/-- As far as column k, and in it as far as row i. -/
def upcol (Q : Nat → Nat → Cx) (i k : Nat) : Nat → Nat → Cx := fun a b => if b < k ∨ b = k ∧ a < i then Q a b else .zero
theorem upcol_zero (Q : Nat → Nat → Cx) : (fun _ _ => Cx.zero) = upcol Q 0 0 := by
  funext a b
  exact (if_neg (by omega)).symm
theorem upcol_next (Q : Nat → Nat → Cx) (i k : Nat) : upm (upcol Q i k) i k (Q i k) = upcol Q (i + 1) k := by
  funext a b
  unfold upm upf upcol
  by_cases ha : a = i
  · subst ha
    rw [if_pos rfl]
    by_cases hb : b = k
    · subst hb
      rw [if_pos rfl, if_pos (by omega)]
    · rw [if_neg hb]
      by_cases h : b < k
      · rw [if_pos (by omega), if_pos (by omega)]
      · rw [if_neg (by omega), if_neg (by omega)]
  · simp only [if_neg ha]
    by_cases h : b < k ∨ b = k ∧ a < i
    · rw [if_pos h, if_pos (by omega)]
    · rw [if_neg h, if_neg (by omega)]
theorem upcol_shut (Q : Nat → Nat → Cx) (n k : Nat) : ∀ a b, a < n → upcol Q n k a b = upcol Q 0 (k + 1) a b := fun a b ha => by
  unfold upcol
  by_cases h : b < k ∨ b = k ∧ a < n
  · rw [if_pos h, if_pos (by omega)]
  · rw [if_neg h, if_neg (by omega)]
theorem upcol_all (Q : Nat → Nat → Cx) (n : Nat) : ∀ a b, b < n → upcol Q 0 n a b = Q a b := fun a b hb => if_pos (by omega)
set_option maxHeartbeats 8000000 in
theorem adjointN_any (w : World) (ga : Nat) (gi : Nat → Nat) (n m : Nat) (F : Nat → Nat → Cx) (hA : MatAt w ga gi n m F) (hn : 0 < n) (hn1 : n ≤ 32) (hm1 : m ≤ 32) :
    Calls Tryz.prog 17 #[.slice (some ⟨ga, 0, none⟩) n n] w (RetMatE w m n (adjM F) 0) := by
  have HA0 := Lib.hid hA
  have hn0 : ¬ (n = 0) := by omega
  clear hA
  go_enter Tryz.func17, Tryz.ntmps17
  go_wp2_with fail
  refine (sidesN_rect w ga gi n m F HA0.out hn hn1 hm1).mono ?_
  rintro e W1 ⟨rfl, hb1⟩
  have KB1 := Lib.hid hb1
  clear hb1
  go_wp2_with fail
  refine (blankN_any W1 m n (by omega) (by omega)).mono ?_
  rintro e W3 ⟨g2, i2, rfl, hM, hP, hb3⟩
  have KB3 := Lib.hid (below_trans KB1.out hb3)
  have HM0 := Lib.hid hM
  have HP := Lib.hid (show MatSep w.heap.size g2 i2 m from ⟨Nat.le_trans KB1.out.size hP.lo, fun i hi => Nat.le_trans KB1.out.size (hP.los i hi), hP.ne, hP.inj⟩)
  clear hM hP hb3 KB1
  go_wp2
  go_loopw [25] (fun j wr => ∃ i : Nat, j = .int .i64 i ∧ i ≤ n ∧ MatAt wr g2 i2 m n (upcol (adjM F) 0 i) ∧ Below w.heap.size w wr) (fun j _ => n - (intOf j).toNat)
  case atStart => exact ⟨0, rfl, by omega, by rw [← upcol_zero]; exact HM0.out, KB3.out⟩
  case round =>
    clear HM0 KB3
    obtain ⟨i, rfl, hin, hM, hB⟩ := hrel
    have HM0 := Lib.hid hM
    have KB0 := Lib.hid hB
    have hrow0 := (HA0.out.below hB)
    clear hM hB
    by_cases hi : i < n
    · have hrow := hrow0.cell hi
      clear hrow0
      go_wp2
      clear hrow
      go_loopw [32] (fun j wr => ∃ k : Nat, j = .int .i64 k ∧ k ≤ m ∧ MatAt wr g2 i2 m n (upcol (adjM F) k i) ∧ Below w.heap.size w wr) (fun j _ => m - (intOf j).toNat)
      case atStart => exact ⟨0, rfl, by omega, HM0.out, KB0.out⟩
      case round =>
        rename_i wr1
        clear HM0 KB0
        obtain ⟨k, rfl, hkm, hM, hB⟩ := hrel
        have HM0 := Lib.hid hM
        have KB0 := Lib.hid hB
        have HA := Lib.hid (HA0.out.below hB)
        clear hM hB
        by_cases hk : k < m
        · go_upto_region 10 with fail
          refine region_lin [.val (kIs (.int .i64 (k : Int))), .val (kIs (.pointer (some ⟨(gi i), 5 * k, none⟩))), .val (kNum (F i k)), .box 30 zNum, .val (kIs (.int .i64 (k : Int))), .put 3 2]
            (by kernel_rfl) (by kernel_rfl) (by kernel_rfl) (by kernel_rfl) (by kernel_rfl) ⟨stab_is _, stab_is _, stab_num _, stab_is _, trivial⟩ (by simp) ⟨?_, ?_, ?_, alloc_num, ?_, store_num _, trivial⟩ ?_
          · intro ts W hb hB hp; intro K hK; simp only [fillT, Nat.zero_add, Nat.reduceAdd, List.setIfInBounds_toArray, List.set_cons_zero, List.set_cons_succ] at hK ⊢; have HK := Lib.hid hK; clear hK hp; refine ⟨?_⟩; go_simp; exact HK.out _ _ rfl (Below.refl _ _)
          · intro ts W hb hB hp; intro K hK; simp only [fillT, Nat.zero_add, Nat.reduceAdd, List.setIfInBounds_toArray, List.set_cons_zero, List.set_cons_succ] at hK ⊢; have HK := Lib.hid hK; clear hK hp; refine ⟨?_⟩; go_simp; exact HK.out _ _ (by simp [kIs, Nat.mul_comm]) (Below.refl _ _)
          · intro ts W hb hB hp; have h1 : ts 1 = _ := hp 1 (by kernel_rfl); intro K hK; simp only [fillT, Nat.zero_add, Nat.reduceAdd, List.setIfInBounds_toArray, List.set_cons_zero, List.set_cons_succ, h1] at hK ⊢; have HK := Lib.hid hK; clear hK hp; refine ⟨?_⟩; refine wp_load_elem rfl rfl ((HA.out.row hi).below hb) hk (fun v hv => HK.out _ _ (hv) (Below.refl _ _))
          · intro ts W hb hB hp; have h0 : ts 0 = _ := hp 0 (by kernel_rfl); intro K hK; simp only [fillT, Nat.zero_add, Nat.reduceAdd, List.setIfInBounds_toArray, List.set_cons_zero, List.set_cons_succ, h0] at hK ⊢; have HK := Lib.hid hK; clear hK hp; refine ⟨?_⟩; go_simp; exact HK.out _ _ rfl (Below.refl _ _)
          intro ts W8 hb8 hh hap
          have e4 := held_is (hh 4 (by simp)) rfl
          obtain ⟨g7, A7, n7, c7, p7, A7b, n7b, c7b, p7b, A7c, n7c, c7c, e3, lo7, z7, X7, N7⟩ := held_box (x := F i k) (hh 3 (by simp)) rfl (hh 5 (by simp)) rfl (hh 2 (by simp)) rfl
          simp only [fillT, Nat.zero_add, Nat.reduceAdd, List.setIfInBounds_toArray, List.set_cons_zero, List.set_cons_succ, e4, e3]
          clear hh hap e4 e3
          generalize ts 0 = u0_W8 at *
          generalize ts 1 = u1_W8 at *
          generalize ts 2 = u2_W8 at *
          clear ts
          have HM := Lib.hid (HM0.out.below hb8)
          have KB2 := Lib.hid (below_trans KB0.out hb8)
          clear hb8 lo7 HM0 KB0 HA
          go_upto_region 11 with fail
          refine region_last [.val (kIs (.slice (some ⟨g2, 0, none⟩) m m)), .val (kIs (.int .i64 (k : Int))), .val (kIs (.pointer (some ⟨g2, k, none⟩))), .val (kIs (.slice (some ⟨i2 k, 0, none⟩) n n)), .val (kIs (.int .i64 (i : Int))), .val (kIs (.agg #[.slice A7 n7 c7, .bool p7, .slice A7b n7b c7b, .bool p7b, .slice A7c n7c c7c])), .val (kIfc (F i k)), .val (kNum ((F i k).conj)), .val (kIs (.pointer (some ⟨(i2 k), 5 * i, none⟩)))]
            (by kernel_rfl) (by kernel_rfl) (by kernel_rfl) (by kernel_rfl) (by kernel_rfl) ⟨Stab.b (stab_is _), Stab.b (stab_is _), Stab.b (stab_is _), Stab.b (stab_is _), Stab.b (stab_is _), Stab.b (stab_is _), Stab.b (stab_ifc _), Stab.b (stab_num _), Stab.b (stab_is _), trivial⟩ (by simp) (ol := _) rfl (by kernel_rfl) ⟨?_, ?_, ?_, ?_, ?_, ?_, ?_, ?_, ?_, trivial⟩ ?_
          · intro ts W hb hB hp; intro K hK; simp only [fillT, Nat.zero_add, Nat.reduceAdd, List.setIfInBounds_toArray, List.set_cons_zero, List.set_cons_succ] at hK ⊢; have HK := Lib.hid hK; clear hK hp; refine ⟨?_⟩; go_simp; exact HK.out _ _ rfl (Below.refl _ _)
          · intro ts W hb hB hp; intro K hK; simp only [fillT, Nat.zero_add, Nat.reduceAdd, List.setIfInBounds_toArray, List.set_cons_zero, List.set_cons_succ] at hK ⊢; have HK := Lib.hid hK; clear hK hp; refine ⟨?_⟩; go_simp; exact HK.out _ _ rfl (Below.refl _ _)
          · intro ts W hb hB hp; have h0 : ts 0 = _ := hp 0 (by kernel_rfl); have h1 : ts 1 = _ := hp 1 (by kernel_rfl); intro K hK; simp only [fillT, Nat.zero_add, Nat.reduceAdd, List.setIfInBounds_toArray, List.set_cons_zero, List.set_cons_succ, h0, h1] at hK ⊢; have HK := Lib.hid hK; clear hK hp; refine ⟨?_⟩; go_simp; exact HK.out _ _ rfl (Below.refl _ _)
          · intro ts W hb hB hp; have h2 : ts 2 = _ := hp 2 (by kernel_rfl); intro K hK; simp only [fillT, Nat.zero_add, Nat.reduceAdd, List.setIfInBounds_toArray, List.set_cons_zero, List.set_cons_succ, h2] at hK ⊢; have HK := Lib.hid hK; clear hK hp; have hcell := (HM.out.below hb).cell hk; refine ⟨?_⟩; go_simp; exact HK.out _ _ rfl (Below.refl _ _)
          · intro ts W hb hB hp; intro K hK; simp only [fillT, Nat.zero_add, Nat.reduceAdd, List.setIfInBounds_toArray, List.set_cons_zero, List.set_cons_succ] at hK ⊢; have HK := Lib.hid hK; clear hK hp; refine ⟨?_⟩; go_simp; exact HK.out _ _ rfl (Below.refl _ _)
          · intro ts W hb hB hp; intro K hK; simp only [fillT, Nat.zero_add, Nat.reduceAdd, List.setIfInBounds_toArray, List.set_cons_zero, List.set_cons_succ] at hK ⊢; refine ⟨?_⟩; refine wp_load_row _ _ rfl (g7) rfl _ _ (0, 0) _ ((hb.block _ (z7)).trans X7) Tryz.underlying30 rfl (by kernel_rfl) ?_; exact hK _ _ rfl (Below.refl _ _)
          · intro ts W hb hB hp; have h5 : ts 5 = _ := hp 5 (by kernel_rfl); intro K hK; simp only [fillT, Nat.zero_add, Nat.reduceAdd, List.setIfInBounds_toArray, List.set_cons_zero, List.set_cons_succ, h5] at hK ⊢; have HK := Lib.hid hK; clear hK hp; refine ⟨?_⟩; go_simp; exact HK.out _ _ ⟨_, rfl, N7.below hb⟩ (Below.refl _ _)
          · intro ts W hb hB hp; have h6 := hp 6 (by kernel_rfl); intro K hK; simp only [fillT, Nat.zero_add, Nat.reduceAdd, List.setIfInBounds_toArray, List.set_cons_zero, List.set_cons_succ] at hK ⊢; have HK := Lib.hid hK; clear hK hp; obtain ⟨u6, e6, n6⟩ := h6; refine ⟨?_⟩; refine wp_invoke rfl (T := 30) (v := u6) (xs := #[u6]) e6 inv_Conj (by simp [Act.eval]) ?_; refine (conjN_any u6 (F i k) W n6).mono ?_; rintro e W9 ⟨r9, rfl, hr9, hb9⟩; exact HK.out _ _ hr9 hb9
          · intro ts W hb hB hp; have h3 : ts 3 = _ := hp 3 (by kernel_rfl); have h4 : ts 4 = _ := hp 4 (by kernel_rfl); intro K hK; simp only [fillT, Nat.zero_add, Nat.reduceAdd, List.setIfInBounds_toArray, List.set_cons_zero, List.set_cons_succ, h3, h4] at hK ⊢; have HK := Lib.hid hK; clear hK hp; refine ⟨?_⟩; go_simp; exact HK.out _ _ (by simp [kIs, Nat.mul_comm]) (Below.refl _ _)
          intro ts W3 hb3 hh hap K hK
          have h7 := held_num (hh 7 (by simp)) rfl
          have e8 := held_is (hh 8 (by simp)) rfl
          have HK := Lib.hid hK
          clear hK hh hap
          simp only [fillT, Nat.zero_add, Nat.reduceAdd, List.setIfInBounds_toArray, List.set_cons_zero, List.set_cons_succ, e8]
          refine ⟨?_⟩
          refine wp_store_elem rfl (k := i) rfl rfl ((HM.out.row hk).below hb3) hi h7 (fun W4 hbut hext hrow => HK.out _ _ ?_)
          clear e8 h7
          have M3 := (HM.out.below hb3).set HP.out hk hbut hext hrow
          have e5 : (F i k).conj = adjM F k i := rfl
          rw [e5, upcol_next] at M3
          have M4 := Lib.hid M3
          have B4 := Lib.hid (hbut.below (below_trans KB2.out hb3) (HP.out.los k hk))
          clear hbut hext hrow e5 X7 N7 z7 hb3 M3 HM KB2
          go_wp2
          go_roundw
          case rel => exact ⟨k + 1, by go_num, by omega, M4.out, B4.out⟩
          case measure => simp [intOf]; omega
        · obtain rfl : m = k := by omega
          have HM3 := Lib.hid (HM0.out.congr (F' := upcol (adjM F) 0 (i + 1)) fun a b ha _ => upcol_shut _ m i a b ha)
          go_wp2
          go_roundw
          case rel => exact ⟨i + 1, by go_num, by omega, HM3.out, KB0.out⟩
          case measure => simp [intOf]; omega
    · obtain rfl : n = i := by omega
      have HM3 := Lib.hid (HM0.out.congr (F' := adjM F) fun a b _ hb => upcol_all _ n a b hb)
      clear hrow0
      go_wp2
      go_ret2
      exact ⟨_, _, rfl, HM3.out, HP.out, KB0.out⟩
set_option maxHeartbeats 2000000 in
theorem adjointN_nil (w : World) (A : Option Addr) (c : Nat) :
    Calls Tryz.prog 17 #[.slice A 0 c] w (RetMatE w 0 0 (fun _ _ => .zero) 0) := by
  go_enter Tryz.func17, Tryz.ntmps17
  go_wp2_with fail
  refine (sidesN_nil w _ _).mono ?_
  rintro e W1 ⟨rfl, hb1⟩
  have KB1 := Lib.hid hb1
  clear hb1
  go_wp2_with fail
  refine (blankN_any W1 0 0 (by omega) (by omega)).mono ?_
  rintro e W3 ⟨g2, gi2, rfl, hM, hP, hb3⟩
  have KB3 := Lib.hid (below_trans KB1.out hb3)
  have HM0 := Lib.hid hM
  have HP := Lib.hid (show MatSep w.heap.size g2 gi2 0 from ⟨Nat.le_trans KB1.out.size hP.lo, fun i hi => absurd hi (by omega), fun i hi => absurd hi (by omega), fun i j hi => absurd hi (by omega)⟩)
  clear hM hP hb3 KB1
  go_wp2
  go_loopw [25] (fun j wr => j = .int .i64 0 ∧ MatAt wr g2 gi2 0 0 (fun _ _ => .zero) ∧ Below w.heap.size w wr) (fun _ _ => 0)
  case atStart => exact ⟨rfl, HM0.out, KB3.out⟩
  case round =>
    clear HM0 KB3
    obtain ⟨rfl, hM, hB⟩ := hrel
    have HM := Lib.hid hM
    have KB := Lib.hid hB
    clear hM hB
    go_wp2
    go_ret2
    exact ⟨_, _, rfl, HM.out, HP.out, KB.out⟩
end Go.Proofs.YtmlkpnfjgifgfaaGreatDoor
set_option linter.unusedSimpArgs false
set_option linter.unusedVariables false
namespace Go.Proofs.YtmlkpnfjgifgfaaGreatDoor
open Go.RowKit
set_option maxRecDepth 100000

set_option maxHeartbeats 2000000 in
theorem detN_nil (w : World) (A : Option Addr) (c : Nat) :
    Calls Tryz.prog 7 #[.slice A 0 c] w (RetNumE w (.int 1) 0) := by
  go_enter Tryz.func7, Tryz.ntmps7
  go_upto_region 2 with fail
  obtain ⟨W1, hW1⟩ : ∃ W1 : World, W1 = ((w.alloc (.cells zNum 30)).alloc (.cells zNum 30)) := ⟨_, rfl⟩
  unfold zNum at hW1
  rw [← hW1]
  have B1 : Below w.heap.size w W1 := by rw [hW1]; exact (by (repeat (first | exact Below.refl _ _ | assumption | with_reducible refine Below.drew ?_ | with_reducible refine below_trans ?_ (below_alloc _ _) | with_reducible refine below_trans ?_ (below_drewN _ _) | with_reducible refine Below.setCell ?_ (by simp <;> omega) _ | refine below_trans ?_ (by assumption))))
  have z4 : w.heap.size + 1 < W1.heap.size := by rw [hW1]; simp
  have X2 : W1.heap[w.heap.size]? = some (.cells zNum 30 (0, 0)) := by rw [hW1]; exact heap_alloc2_old _ _ _
  clear hW1
  have HX1 := Lib.hid X2
  clear X2
  go_wp2_with fail
  refine (squareN_nil W1 A c).mono ?_
  rintro e W2 ⟨rfl, hb⟩
  have HX2 := Lib.hid ((hb.block w.heap.size (by omega)).trans HX1.out)
  have B2 := below_trans B1 hb
  have z2 : w.heap.size + 1 < W2.heap.size := Nat.lt_of_lt_of_le z4 hb.size
  clear hb B1 z4 HX1
  go_wp2_with fail
  refine (constant_any 1 W2 (by omega) (by omega)).mono ?_
  rintro e W6 ⟨r, rfl, hr, hb⟩
  obtain ⟨A8, n8, c8, p8, A8b, n8b, c8b, p8b, A8c, n8c, c8c, ia, ib, id, rfl, -⟩ := hr.parts
  obtain ⟨f0, f1, f2, f3, f4, y0, y1, y2, y3, y4⟩ := bx5 ((hb.block w.heap.size (by omega)).trans HX2.out)
  have NB := NumBox.nil f0 f1 f2 f3 f4
  have HR8 := Lib.hid hr
  have B6 := Lib.hid (below_trans B2 hb)
  clear hb hr HX2 B2
  go_wp2
  refine bodyPost_ret (v := .tuple #[.agg #[.slice A8 n8 c8, .bool p8, .slice A8b n8b c8b, .bool p8b, .slice A8c n8c c8c], .int .i64 0]) (by simp [results, Tryz.results7]; exact run_load5e NB _ _ _ _ _ _) rfl ?_
  exact RetNumE.box B6.out (by omega) NB HR8.out _ _ _ _ _
set_option maxHeartbeats 2000000 in
theorem productN_nil (w : World) (A A' : Option Addr) (c c' : Nat) :
    Calls Tryz.prog 12 #[.slice A 0 c, .slice A' 0 c'] w (RetMatE w 0 0 (fun _ _ => .zero) 0) := by
  go_enter Tryz.func12, Tryz.ntmps12
  go_wp2_with fail
  refine (sidesN_nil w _ _).mono ?_
  rintro e W1 ⟨rfl, hb1⟩
  have KB1 := Lib.hid hb1
  clear hb1
  go_wp2_with fail
  refine (sidesN_nil W1 _ _).mono ?_
  rintro e W2 ⟨rfl, hb2⟩
  have KB2 := Lib.hid (below_trans KB1.out hb2)
  clear hb2 KB1
  go_wp2_with fail
  refine (blankN_any W2 0 0 (by omega) (by omega)).mono ?_
  rintro e W3 ⟨g2, gi2, rfl, hM, hP, hb3⟩
  have KB3 := Lib.hid (below_trans KB2.out hb3)
  have HM0 := Lib.hid hM
  have HP := Lib.hid (show MatSep w.heap.size g2 gi2 0 from ⟨Nat.le_trans KB2.out.size hP.lo, fun i hi => absurd hi (by omega), fun i hi => absurd hi (by omega), fun i j hi => absurd hi (by omega)⟩)
  clear hM hP hb3 KB2
  go_wp2
  go_loopw [46] (fun j wr => j = .int .i64 0 ∧ MatAt wr g2 gi2 0 0 (fun _ _ => .zero) ∧ Below w.heap.size w wr) (fun _ _ => 0)
  case atStart => exact ⟨rfl, HM0.out, KB3.out⟩
  case round =>
    clear HM0 KB3
    obtain ⟨rfl, hM, hB⟩ := hrel
    have HM := Lib.hid hM
    have KB := Lib.hid hB
    clear hM hB
    go_wp2
    go_ret2
    exact ⟨_, _, rfl, HM.out, HP.out, KB.out⟩
end Go.Proofs.YtmlkpnfjgifgfaaGreatDoor
