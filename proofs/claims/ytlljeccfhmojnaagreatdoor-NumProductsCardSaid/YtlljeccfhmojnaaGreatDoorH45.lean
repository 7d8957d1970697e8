import Derived.Test.YtlljeccfhmojnaaGreatDoorH28
import Derived.Test.YtlljeccfhmojnaaGreatDoorH30
import Derived.Test.YtlljeccfhmojnaaGreatDoorH44
set_option linter.unusedSimpArgs false
set_option linter.unusedVariables false
namespace Go.Proofs.YtlljeccfhmojnaaGreatDoor
open Go.RowKit
set_option maxRecDepth 100000
set_option maxHeartbeats 4000000 in
theorem identityN_at (w : World) (z y : Int) (n : Nat) (hn : n ≤ 32) (m1 : min z 32 = y) (m2 : max 0 y = (n : Int)) :
    Calls Tryz.prog 53 #[.int .i64 z] w (RetMat w n n idF) := by
  go_enter Tryz.func53, Tryz.ntmps53
  go_wp2_with fail
  clear m1 m2
  refine (blankN_any w n n (by omega) (by omega)).mono ?_
  rintro e W1 ⟨go, g2, rfl, hM, hP, hb⟩
  have KB0 := Lib.hid hb
  have HM0 := Lib.hid hM
  have HP := Lib.hid hP
  clear hM hP hb
  go_wp2
  go_loopw [15] (fun j wr => ∃ i : Nat, j = .int .i64 i ∧ i ≤ n ∧ MatAt wr go g2 n n (upto idF i 0) ∧ Below w.heap.size w wr) (fun j _ => n - (intOf j).toNat)
  case atStart => exact ⟨0, rfl, by omega, by rw [← upto_zero]; exact HM0.out, KB0.out⟩
  case round =>
    clear HM0 KB0
    obtain ⟨i, rfl, hin, hM, hB⟩ := hrel
    have HM0 := Lib.hid hM
    have KB0 := Lib.hid hB
    clear hM hB
    by_cases hi : i < n
    · have hrow := HM0.out.cell hi
      go_wp2
      clear hrow
      go_loopw [22] (fun j wr => ∃ k : Nat, j = .int .i64 k ∧ k ≤ n ∧ MatAt wr go g2 n n (upto idF i 0) ∧ Below w.heap.size w wr) (fun j _ => n - (intOf j).toNat)
      case atStart => exact ⟨0, rfl, by omega, HM0.out, KB0.out⟩
      case round =>
        rename_i wr1
        clear HM0 KB0
        obtain ⟨k, rfl, hkn, hM, hB⟩ := hrel
        have HM := Lib.hid hM
        have KB := Lib.hid hB
        clear hM hB
        by_cases hk : k < n
        · go_upto_region 9 with fail
          refine region_last [.val (kIs (.slice (some ⟨(g2 i), 0, none⟩) n n)), .val (kIs (.int .i64 (k : Int))), .val (kNum (Cx.int 0)), .val (kIs (.pointer (some ⟨(g2 i), 5 * k, none⟩)))]
            (by kernel_rfl) (by kernel_rfl) (by kernel_rfl) (by kernel_rfl) (by kernel_rfl) ⟨Stab.b (stab_is _), Stab.b (stab_is _), Stab.b (stab_num _), Stab.b (stab_is _), trivial⟩ (by simp) (ol := _) rfl (by kernel_rfl) ⟨?_, ?_, ?_, ?_, trivial⟩ ?_
          · exact obp
          · exact obp
          · intro ts W hb hB hp; intro K hK; simp only [fillT, Nat.zero_add, Nat.reduceAdd, sA, sB, sC] at hK ⊢; have HK := Lib.hid hK; clear hK hp; refine ⟨?_⟩; go_simp; refine (constant_any 0 _ (by omega) (by omega)).mono ?_; rintro e W9 ⟨r9, rfl, hr9, hb9⟩; exact HK.out _ _ hr9 hb9
          · intro ts W hb hB hp; have h0 : ts 0 = _ := hp 0 (by kernel_rfl); have h1 : ts 1 = _ := hp 1 (by kernel_rfl); intro K hK; simp only [fillT, Nat.zero_add, Nat.reduceAdd, sA, sB, sC, h0, h1] at hK ⊢; have HK := Lib.hid hK; clear hK hp; refine ⟨?_⟩; go_simp; exact HK.out _ _ (by simp [kIs, Nat.mul_comm]) (Below.refl _ _)
          intro ts W3 hb3 hh hap K hK
          have h2 := held_num (hh 2 (by simp)) rfl
          have e3 := held_is (hh 3 (by simp)) rfl
          have HK := Lib.hid hK
          clear hK hh hap
          simp only [fillT, Nat.zero_add, Nat.reduceAdd, sA, sB, sC, e3]
          refine ⟨?_⟩
          refine wp_store_elem rfl (k := k) rfl rfl ((HM.out.row hi).below hb3) hk h2 (fun W4 hbut hext hrow => HK.out _ _ ?_)
          clear e3 h2
          have M3 := (HM.out.below hb3).set HP.out hi hbut hext hrow
          rw [int_zero, id_zero] at M3
          have M4 := Lib.hid M3
          have B4 := Lib.hid (hbut.below (below_trans KB.out hb3) (HP.out.los i hi))
          clear hbut hext hrow hb3 M3 HM KB
          go_wp2
          go_roundw
          case rel => exact ⟨k + 1, by go_num, by omega, M4.out, B4.out⟩
          case measure => simp [intOf]; omega
        · obtain rfl : n = k := by omega
          go_upto_region 11 with fail
          refine region_last [.val (kIs (.slice (some ⟨(g2 i), 0, none⟩) n n)), .val (kIs (.int .i64 (i : Int))), .val (kNum (Cx.int 1)), .val (kIs (.pointer (some ⟨(g2 i), 5 * i, none⟩)))]
            (by kernel_rfl) (by kernel_rfl) (by kernel_rfl) (by kernel_rfl) (by kernel_rfl) ⟨Stab.b (stab_is _), Stab.b (stab_is _), Stab.b (stab_num _), Stab.b (stab_is _), trivial⟩ (by simp) (ol := _) rfl (by kernel_rfl) ⟨?_, ?_, ?_, ?_, trivial⟩ ?_
          · exact obp
          · exact obp
          · intro ts W hb hB hp; intro K hK; simp only [fillT, Nat.zero_add, Nat.reduceAdd, sA, sB, sC] at hK ⊢; have HK := Lib.hid hK; clear hK hp; refine ⟨?_⟩; go_simp; refine (constant_any 1 _ (by omega) (by omega)).mono ?_; rintro e W9 ⟨r9, rfl, hr9, hb9⟩; exact HK.out _ _ hr9 hb9
          · intro ts W hb hB hp; have h0 : ts 0 = _ := hp 0 (by kernel_rfl); have h1 : ts 1 = _ := hp 1 (by kernel_rfl); intro K hK; simp only [fillT, Nat.zero_add, Nat.reduceAdd, sA, sB, sC, h0, h1] at hK ⊢; have HK := Lib.hid hK; clear hK hp; refine ⟨?_⟩; go_simp; exact HK.out _ _ (by simp [kIs, Nat.mul_comm]) (Below.refl _ _)
          intro ts W3 hb3 hh hap K hK
          have h2 := held_num (hh 2 (by simp)) rfl
          have e3 := held_is (hh 3 (by simp)) rfl
          have HK := Lib.hid hK
          clear hK hh hap
          simp only [fillT, Nat.zero_add, Nat.reduceAdd, sA, sB, sC, e3]
          refine ⟨?_⟩
          refine wp_store_elem rfl (k := i) rfl rfl ((HM.out.row hi).below hb3) hi h2 (fun W4 hbut hext hrow => HK.out _ _ ?_)
          clear e3 h2
          have M3 := (HM.out.below hb3).set HP.out hi hbut hext hrow
          rw [id_one] at M3
          have M4 := Lib.hid M3
          have B4 := Lib.hid (hbut.below (below_trans KB.out hb3) (HP.out.los i hi))
          clear hbut hext hrow hb3 M3 HM KB
          go_wp2
          go_roundw
          case rel => exact ⟨i + 1, by go_num, by omega, M4.out, B4.out⟩
          case measure => simp [intOf]; omega
    · obtain rfl : i = n := by omega
      have HM3 := Lib.hid (HM0.out.congr (F' := idF) fun a b ha _ => upto_all _ i a b ha)
      go_wp2
      go_ret
      exact ⟨_, _, rfl, HM3.out, HP.out, KB0.out⟩
theorem identityN_big (w : World) (z : Int) (hz : 32 < z) :
    Calls Tryz.prog 53 #[.int .i64 z] w (RetMat w 32 32 idF) :=
  identityN_at w z 32 32 (by omega) (by omega) (by omega)
theorem identityN_neg (w : World) (z : Int) (hz : z < 0) :
    Calls Tryz.prog 53 #[.int .i64 z] w (RetMat w 0 0 idF) :=
  identityN_at w z z 0 (by omega) (by omega) (by omega)
theorem PRag.set {B : Nat} {W W' : World} {go : Nat} {gi : Nat → Nat} {n : Nat} {ml : Nat → Nat} {k : Nat} {F : Nat → Nat → Cx} (h : PRag B W go gi n ml k F) {i : Nat} (hi : i < k) {f : Nat → Cx} (hb : But W W' (gi i)) (he : Ext W W') (hr : NBlk W' (gi i) (ml i) f) : PRag B W' go gi n ml k (upf F i f) := by
  obtain ⟨cs, h1, h2, h3, h4⟩ := h.cells
  refine ⟨h.sep, h.kn, ⟨cs, (hb.other _ (Ne.symm (h.sep.ne i hi))).trans h1, h2, h3, h4⟩, fun j hj => ?_⟩
  by_cases hji : j = i
  · subst hji
    rw [upf_same]
    exact hr
  · rw [upf_other _ _ hji]
    exact (h.rows j hj).but hb he fun e => hji (h.sep.inj j i hj hi e)
set_option maxHeartbeats 8000000 in
theorem liftN_any (w : World) (v : Value) (n : Nat) (ml : Nat → Nat) (F : Nat → Nat → Cx) (h : NSS w v n ml F) (hn : n ≤ 1099511627776) (hml : ∀ i, i < n → ml i ≤ 1099511627776) :
    Calls Tryz.prog 52 #[v] w fun e w' => ∃ go gk, e = .returned (.slice (some ⟨go, 0, none⟩) n n) ∧ RagN w' go gk n ml F ∧ Below w.heap.size w w' := by
  have HA0 := Lib.hid h
  obtain ⟨A, c, rfl, -⟩ := h
  have HML := Lib.hid hml
  clear hml
  go_enter Tryz.func52, Tryz.ntmps52
  go_upto_region 2 with fail
  obtain ⟨W0, hW0⟩ : ∃ W0 : World, W0 = w.alloc (.cells zNum 27) := ⟨_, rfl⟩
  unfold zNum at hW0
  rw [← hW0]
  have b0 : Below w.heap.size w W0 := by rw [hW0]; exact bel
  have z0 : w.heap.size < W0.heap.size := by rw [hW0]; simp
  have x0 : W0.heap[w.heap.size]? = some (.cells zNum 27 (0, 0)) := by rw [hW0]; exact heap_alloc_new _ _
  clear hW0
  have HA := Lib.hid (show NSS W0 _ n ml F from HA0.out.below b0)
  have HB00 := Lib.hid b0
  have HX0 : Hid (∃ A0 n0 c0 p0 A0b n0b c0b p0b A0c n0c c0c, W0.heap[w.heap.size]? = some (.cells #[.slice A0 n0 c0, .bool p0, .slice A0b n0b c0b, .bool p0b, .slice A0c n0c c0c] 27 (0, 0)) ∧ IsNum W0 (.agg #[.slice A0 n0 c0, .bool p0, .slice A0b n0b c0b, .bool p0b, .slice A0c n0c c0c]) .zero) :=
    Lib.hid ⟨none, 0, 0, false, none, 0, 0, false, none, 0, 0, x0, IsNum.zero W0⟩
  have Z0 := Lib.hid z0
  obtain ⟨W1, hr1, hb1, hs1, hP1⟩ := make_rag n ml hn W0 (upto F 0 0) (fun _ => 0)
  have HB := Lib.hid hb1
  have HP := Lib.hid hP1
  clear hb1 hP1 hs1 x0 z0 b0
  go_wp2
  clear hr1
  go_loopw [14] (fun iv wr => ∃ (i : Nat) (gk : Nat → Nat), iv = .int .i64 (i : Int) ∧ i ≤ n ∧ Below W0.heap.size W0 wr ∧ PRag W0.heap.size wr W0.heap.size gk n ml i (upto F i 0)) (fun iv _ => n - (intOf iv).toNat)
  case atStart => exact ⟨0, _, rfl, by omega, HB.out, HP.out⟩
  case round =>
    clear HB HP
    obtain ⟨i, gk0, rfl, hin, hB, hP⟩ := hrel
    have KB := Lib.hid hB
    have HP := Lib.hid hP
    clear hB hP
    by_cases hi : i < n
    · obtain ⟨A', c', e', hR'⟩ := HA.out
      obtain ⟨rfl, -, rfl⟩ : A' = A ∧ n = n ∧ c' = c := by simpa using e'.symm
      clear e'
      obtain ⟨ga, gi, rfl, hR⟩ := hR' (by omega)
      clear hR'
      have HR := Lib.hid hR
      have hcell := (hR.below KB.out).cell hi
      obtain ⟨mi, hmi⟩ : ∃ mi, ml i = mi := ⟨_, rfl⟩
      rw [hmi] at hcell
      have HMI := Lib.hid hmi
      have hm1 : mi ≤ 1099511627776 := hmi ▸ HML.out i hi
      obtain ⟨W2, hr2, hb2, hs2, hN2⟩ := make_row mi hm1 wr
      have f1 := (HP.out.below hb2).cell_nil (Nat.le_refl i) hi
      have f2 := (HP.out.below hb2).frozen i
      have hN3 : NBlk W2 wr.heap.size (ml i) (upto F i 0 i) := by
        rw [hmi]
        exact hN2.congr fun j _ => (if_neg (by omega)).symm
      obtain ⟨P3, hB2, hE2⟩ := HP.out.row hb2 (Nat.le_refl _) hN3 hi
      rw [hmi] at P3 hB2
      have M4 := Lib.hid P3
      have B4 := Lib.hid (hB2.below (below_trans KB.out hb2) (Nat.le_refl _))
      have hi1 : (i : Int) < (n : Int) := by omega
      clear P3 hB2 hE2 hN2 hN3 hb2 hs2 hmi hR
      go_wp2
      clear hr2 hcell f1 f2
      obtain ⟨gk, hgk⟩ : ∃ gk, gk = upf gk0 i wr.heap.size := ⟨_, rfl⟩
      rw [← hgk] at M4
      clear hgk
      go_loopw [27] (fun j wr => ∃ k : Nat, j = .int .i64 k ∧ k ≤ mi ∧ PRag W0.heap.size wr W0.heap.size gk n ml (i + 1) (upto F i k) ∧ Below W0.heap.size W0 wr) (fun j _ => mi - (intOf j).toNat)
      case atStart => exact ⟨0, rfl, by omega, M4.out, B4.out⟩
      case round =>
        clear M4 B4 KB HP
        obtain ⟨k, rfl, hkm, hM, hB⟩ := hrel
        have HM0 := Lib.hid hM
        have KB0 := Lib.hid hB
        have HRow : Hid (NBlk wr (gi i) mi (F i)) := Lib.hid (HMI.out ▸ (HR.out.below hB).row hi)
        clear hM hB
        by_cases hk : k < mi
        · go_upto_region 9 with fail
          refine region_lin [.val (kIs (.int .i64 (k : Int))), .val (kIs (.pointer (some ⟨(gi i), 5 * k, none⟩))), .val (kNum (F i k)), .box 27 zNum, .val (kIs (.int .i64 (k : Int))), .put 3 2]
            (by kernel_rfl) (by kernel_rfl) (by kernel_rfl) (by kernel_rfl) (by kernel_rfl) ⟨stab_is _, stab_is _, stab_num _, stab_is _, trivial⟩ (by simp) ⟨?_, ?_, ?_, alloc_num, ?_, store_num _, trivial⟩ ?_
          · exact obp
          · intro ts W hb hB hp; intro K hK; simp only [fillT, Nat.zero_add, Nat.reduceAdd, sA, sB, sC] at hK ⊢; have HK := Lib.hid hK; clear hK hp; refine ⟨?_⟩; go_simp; exact HK.out _ _ (by simp [kIs, Nat.mul_comm]) (Below.refl _ _)
          · intro ts W hb hB hp; have h1 : ts 1 = _ := hp 1 (by kernel_rfl); intro K hK; simp only [fillT, Nat.zero_add, Nat.reduceAdd, sA, sB, sC, h1] at hK ⊢; have HK := Lib.hid hK; clear hK hp; refine ⟨?_⟩; refine wp_load_elem rfl rfl (HRow.out.below hb) hk (fun v hv => HK.out _ _ (hv) (Below.refl _ _))
          · intro ts W hb hB hp; have h0 : ts 0 = _ := hp 0 (by kernel_rfl); intro K hK; simp only [fillT, Nat.zero_add, Nat.reduceAdd, sA, sB, sC, h0] at hK ⊢; have HK := Lib.hid hK; clear hK hp; refine ⟨?_⟩; go_simp; exact HK.out _ _ rfl (Below.refl _ _)
          intro ts W8 hb8 hh hap
          have e4 := held_is (hh 4 (by simp)) rfl
          obtain ⟨g7, A7, n7, c7, p7, A7b, n7b, c7b, p7b, A7c, n7c, c7c, e3, lo7, z7, X7, N7⟩ := held_box (x := F i k) (hh 3 (by simp)) rfl (hh 5 (by simp)) rfl (hh 2 (by simp)) rfl
          simp only [fillT, Nat.zero_add, Nat.reduceAdd, sA, sB, sC, e4, e3]
          clear hh hap e4 e3
          generalize ts 0 = u0_W8 at *
          generalize ts 1 = u1_W8 at *
          generalize ts 2 = u2_W8 at *
          clear ts
          have HM := Lib.hid (HM0.out.below hb8)
          have KB2 := Lib.hid (below_trans KB0.out hb8)
          clear hb8 lo7 HM0 KB0 HRow
          obtain ⟨A0, n0, c0, p0, A0b, n0b, c0b, p0b, A0c, n0c, c0c, x0, y0⟩ := HX0.out
          have X0 := (KB2.out.block (w.heap.size) Z0.out).trans x0
          have z0 := Nat.lt_of_lt_of_le Z0.out KB2.out.size
          have N0 := y0.below KB2.out
          clear x0 y0
          go_upto_region 10 with fail
          refine region_last [.val (kIs (.slice (some ⟨W0.heap.size, 0, none⟩) n n)), .val (kIs (.int .i64 (i : Int))), .val (kIs (.pointer (some ⟨W0.heap.size, i, none⟩))), .val (kIs (.slice (some ⟨gk i, 0, none⟩) mi mi)), .val (kIs (.int .i64 (k : Int))), .val (kIs (.agg #[.slice A0 n0 c0, .bool p0, .slice A0b n0b c0b, .bool p0b, .slice A0c n0c c0c])), .val (kIfc (.zero)), .val (kIs (.agg #[.slice A7 n7 c7, .bool p7, .slice A7b n7b c7b, .bool p7b, .slice A7c n7c c7c])), .val (kNum (F i k)), .val (kIs (.pointer (some ⟨(gk i), 5 * k, none⟩)))]
            (by kernel_rfl) (by kernel_rfl) (by kernel_rfl) (by kernel_rfl) (by kernel_rfl) ⟨Stab.b (stab_is _), Stab.b (stab_is _), Stab.b (stab_is _), Stab.b (stab_is _), Stab.b (stab_is _), Stab.b (stab_is _), Stab.b (stab_ifc _), Stab.b (stab_is _), Stab.b (stab_num _), Stab.b (stab_is _), trivial⟩ (by simp) (ol := _) rfl (by kernel_rfl) ⟨?_, ?_, ?_, ?_, ?_, ?_, ?_, ?_, ?_, ?_, trivial⟩ ?_
          · exact obp
          · exact obp
          · intro ts W hb hB hp; have h0 : ts 0 = _ := hp 0 (by kernel_rfl); have h1 : ts 1 = _ := hp 1 (by kernel_rfl); intro K hK; simp only [fillT, Nat.zero_add, Nat.reduceAdd, sA, sB, sC, h0, h1] at hK ⊢; have HK := Lib.hid hK; clear hK hp; refine ⟨?_⟩; go_simp; exact HK.out _ _ rfl (Below.refl _ _)
          · intro ts W hb hB hp; have h2 : ts 2 = _ := hp 2 (by kernel_rfl); intro K hK; simp only [fillT, Nat.zero_add, Nat.reduceAdd, sA, sB, sC, h2] at hK ⊢; have HK := Lib.hid hK; clear hK hp; have hcell := (HM.out.below hb).cell (Nat.lt_succ_self i); rw [HMI.out] at hcell; refine ⟨?_⟩; go_simp; exact HK.out _ _ rfl (Below.refl _ _)
          · exact obp
          · intro ts W hb hB hp; intro K hK; simp only [fillT, Nat.zero_add, Nat.reduceAdd, sA, sB, sC] at hK ⊢; refine ⟨?_⟩; refine wp_load_row _ _ rfl (w.heap.size) rfl _ _ (0, 0) _ ((hb.block _ (z0)).trans X0) Tryz.underlying27 rfl (by kernel_rfl) ?_; exact hK _ _ rfl (Below.refl _ _)
          · intro ts W hb hB hp; have h5 : ts 5 = _ := hp 5 (by kernel_rfl); intro K hK; simp only [fillT, Nat.zero_add, Nat.reduceAdd, sA, sB, sC, h5] at hK ⊢; have HK := Lib.hid hK; clear hK hp; refine ⟨?_⟩; go_simp; exact HK.out _ _ ⟨_, rfl, N0.below hb⟩ (Below.refl _ _)
          · intro ts W hb hB hp; intro K hK; simp only [fillT, Nat.zero_add, Nat.reduceAdd, sA, sB, sC] at hK ⊢; refine ⟨?_⟩; refine wp_load_row _ _ rfl (g7) rfl _ _ (0, 0) _ ((hb.block _ (z7)).trans X7) Tryz.underlying27 rfl (by kernel_rfl) ?_; exact hK _ _ rfl (Below.refl _ _)
          · intro ts W hb hB hp; have h6 := hp 6 (by kernel_rfl); have h7 : ts 7 = _ := hp 7 (by kernel_rfl); intro K hK; simp only [fillT, Nat.zero_add, Nat.reduceAdd, sA, sB, sC, h7] at hK ⊢; have HK := Lib.hid hK; clear hK hp; obtain ⟨u6, e6, n6⟩ := h6; refine ⟨?_⟩; refine wp_invoke rfl (T := 27) (v := u6) (xs := #[u6, .agg #[.slice A7 n7 c7, .bool p7, .slice A7b n7b c7b, .bool p7b, .slice A7c n7c c7c]]) e6 inv_Of (by simp [Act.eval]) ?_; refine (ofN_any u6 _ (.zero) (F i k) W n6 (N7.below hb)).mono ?_; rintro e W9 ⟨r9, rfl, hr9, hb9⟩; exact HK.out _ _ hr9 hb9
          · intro ts W hb hB hp; have h3 : ts 3 = _ := hp 3 (by kernel_rfl); have h4 : ts 4 = _ := hp 4 (by kernel_rfl); intro K hK; simp only [fillT, Nat.zero_add, Nat.reduceAdd, sA, sB, sC, h3, h4] at hK ⊢; have HK := Lib.hid hK; clear hK hp; refine ⟨?_⟩; go_simp; exact HK.out _ _ (by simp [kIs, Nat.mul_comm]) (Below.refl _ _)
          intro ts W3 hb3 hh hap K hK
          have h8 := held_num (hh 8 (by simp)) rfl
          have e9 := held_is (hh 9 (by simp)) rfl
          have HK := Lib.hid hK
          clear hK hh hap
          simp only [fillT, Nat.zero_add, Nat.reduceAdd, sA, sB, sC, e9]
          refine ⟨?_⟩
          refine wp_store_elem rfl (k := k) rfl rfl ((show NBlk W8 (gk i) mi (upto F i k i) from HMI.out ▸ HM.out.rows i (Nat.lt_succ_self i)).below hb3) hk h8 (fun W4 hbut hext hrow => HK.out _ _ ?_)
          clear e9 h8
          rw [← HMI.out] at hrow
          have M3 := (HM.out.below hb3).set (Nat.lt_succ_self i) hbut hext hrow
          have M4 := Lib.hid (show PRag W0.heap.size W4 W0.heap.size gk n ml (i + 1) (upto F i (k + 1)) by rw [← upto_next]; exact M3)
          have B4 := Lib.hid (hbut.below (below_trans KB2.out hb3) (HM.out.sep.los i (Nat.lt_succ_self i)))
          clear hbut hext hrow X7 N7 z7 hb3 M3 HM KB2 X0 z0 N0
          go_wp2
          go_roundw
          case rel => exact ⟨k + 1, by go_num, by omega, M4.out, B4.out⟩
          case measure => simp [intOf]; omega
        · obtain rfl : mi = k := by omega
          have HM3 := Lib.hid (HM0.out.congr (F' := upto F (i + 1) 0) fun a b ha hb => by
            by_cases hai : a = i
            · subst hai
              exact upto_shut F a mi a b (by rw [← HMI.out]; exact hb)
            · unfold upto
              rw [if_pos (by omega), if_pos (by omega)])
          go_wp2
          go_roundw
          case rel => exact ⟨i + 1, gk, by go_num, by omega, KB0.out, HM3.out⟩
          case measure => simp [intOf]; omega
    · obtain rfl : i = n := by omega
      have HM3 := Lib.hid (HP.out.congr (F' := F) fun a b ha _ => upto_all _ i a b ha)
      go_wp2
      go_ret
      exact ⟨_, _, rfl, HM3.out.done.1, below_trans HB00.out KB.out⟩
theorem RagN.mat {W : World} {go : Nat} {gi : Nat → Nat} {n m : Nat} {ml : Nat → Nat} {F : Nat → Nat → Cx} (h : RagN W go gi n ml F) (hm : ∀ i, i < n → ml i = m) : MatAt W go gi n m F := by
  obtain ⟨cs, h1, h2, h3, h4⟩ := h
  exact ⟨cs, h1, h2, fun i hi => by rw [← hm i hi]; exact h3 i hi, fun i hi => by rw [← hm i hi]; exact h4 i hi⟩
theorem RagQ.mat {W : World} {go : Nat} {gi : Nat → Nat} {n m : Nat} {ml : Nat → Nat} {F : Nat → Nat → Cx} (h : RagQ W go gi n ml F) (hm : ∀ i, i < n → ml i = m) : MatQ W go gi n m F := by
  obtain ⟨cs, h1, h2, h3, h4⟩ := h
  exact ⟨cs, h1, h2, fun i hi => by rw [← hm i hi]; exact h3 i hi, fun i hi => by rw [← hm i hi]; exact h4 i hi⟩
theorem RagN.nss {W : World} {go : Nat} {gi : Nat → Nat} {n : Nat} {ml : Nat → Nat} {F : Nat → Nat → Cx} (h : RagN W go gi n ml F) (c : Nat) : NSS W (.slice (some ⟨go, 0, none⟩) n c) n ml F := ⟨_, c, rfl, fun _ => ⟨go, gi, rfl, h⟩⟩
theorem RagQ.qss {W : World} {go : Nat} {gi : Nat → Nat} {n : Nat} {ml : Nat → Nat} {F : Nat → Nat → Cx} (h : RagQ W go gi n ml F) (c : Nat) : QSS W (.slice (some ⟨go, 0, none⟩) n c) n ml F := ⟨_, c, rfl, fun _ => ⟨go, gi, rfl, h⟩⟩
theorem NSS.nil (W : World) (A : Option Addr) (c : Nat) (ml : Nat → Nat) (F : Nat → Nat → Cx) : NSS W (.slice A 0 c) 0 ml F := ⟨A, c, rfl, fun h => absurd h (by omega)⟩
theorem QSS.nil (W : World) (A : Option Addr) (c : Nat) (ml : Nat → Nat) (F : Nat → Nat → Cx) : QSS W (.slice A 0 c) 0 ml F := ⟨A, c, rfl, fun h => absurd h (by omega)⟩
set_option maxHeartbeats 1000000 in
theorem productN_p0 (w : World) (v u : Value) (n : Nat) (ml ml' : Nat → Nat) (F G : Nat → Nat → Cx) (h : NSS w v n ml F) (h' : NSS w u 0 ml' G) (hn : n ≤ 32) (hml : ∀ i, i < n → ml i = 0) :
    Calls Tryz.prog 45 #[v, u] w (RetMatE w n 0 (fun _ _ => .zero) 0) := by
  have v1 : Vld n ml := ⟨hn, fun i hi => ⟨by rw [hml i hi, hml 0 (by omega)], by rw [hml i hi]; omega⟩⟩
  have v2 : Vld 0 ml' := ⟨by omega, fun i hi => absurd hi (by omega)⟩
  have V1 := Lib.hid v1
  have V2 := Lib.hid v2
  have HV1 := Lib.hid (fun W (hb : Below w.heap.size w W) => sidesN_all W _ n _ F (h.below hb) (by omega) (fun i hi => by rw [hml i hi]; omega))
  have HV2 := Lib.hid (fun W (hb : Below w.heap.size w W) => sidesN_all W _ 0 _ G (h'.below hb) (by omega) (fun i hi => absurd hi (by omega)))
  have hc0 : colsOf n ml = 0 := by unfold colsOf; split <;> first | rfl | exact hml 0 (by omega)
  have hc1 : colsOf 0 ml' = 0 := rfl
  have HC0 := Lib.hid hc0
  have HC1 := Lib.hid hc1
  obtain ⟨A, c, rfl, -⟩ := h
  obtain ⟨A', c', rfl, -⟩ := h'
  clear v1 v2 hml hc0 hc1
  go_enter Tryz.func45, Tryz.ntmps45
  go_wp2_with fail
  refine (HV1.out w (Below.refl _ _)).mono ?_
  rintro e W2 ⟨r1, c1, b1, rfl, hb1, hb2, hb3⟩
  obtain rfl : b1 = true := hb1.2 V1.out
  clear hb1
  obtain ⟨e1, e2⟩ := hb2 rfl
  rw [HC0.out] at e2
  subst e1 e2
  clear hb2
  go_wp2_with fail
  refine (HV2.out W2 hb3).mono ?_
  rintro e W3 ⟨r2, c2, b2, rfl, hb4, hb5, hb6⟩
  obtain rfl : b2 = true := hb4.2 V2.out
  clear hb4
  obtain ⟨e1, e2⟩ := hb5 rfl
  rw [HC1.out] at e2
  subst e1 e2
  clear hb5
  have KB2 := Lib.hid (below_trans hb3 hb6)
  clear hb3 hb6
  go_wp2_with fail
  refine (blankN_any W3 r1 0 (by omega) (by omega)).mono ?_
  rintro e W4 ⟨g2, gi2, rfl, hM, hP, hb3⟩
  have KB3 := Lib.hid (below_trans KB2.out hb3)
  have HM0 := Lib.hid hM
  have HP := Lib.hid (show MatSep w.heap.size g2 gi2 r1 from ⟨Nat.le_trans KB2.out.size hP.lo, fun i hi => Nat.le_trans KB2.out.size (hP.los i hi), hP.ne, hP.inj⟩)
  clear hM hP hb3 KB2
  go_wp2
  go_loopw [46] (fun j wr => ∃ i : Nat, j = .int .i64 (i : Int) ∧ i ≤ r1 ∧ wr = W4) (fun j _ => r1 - (intOf j).toNat)
  case atStart => exact ⟨0, rfl, by omega, by trivial⟩
  case round =>
    obtain ⟨i, rfl, hin, rfl⟩ := hrel
    by_cases hi : i < r1
    · have hi1 : (i : Int) < (r1 : Int) := by omega
      have hrow := HM0.out.cell hi
      go_wp2_with fail
      clear hrow
      go_loopw [53] (fun kv wx => kv = .int .i64 0 ∧ wx = wr) (fun _ _ => 0)
      case atStart => exact ⟨by trivial, by trivial⟩
      case round =>
        obtain ⟨rfl, rfl⟩ := hrel
        go_wp2
        go_roundw
        case rel => exact ⟨i + 1, by go_num, by omega, by trivial⟩
        case measure => simp [intOf]; omega
    · obtain rfl : r1 = i := by omega
      go_wp2
      go_ret2
      exact ⟨_, _, rfl, HM0.out, HP.out, KB3.out⟩
/-- A matrix and a code, of the program's and of the reference's. -/
def BothN (w : World) (N : Nat) (ML : Nat → Nat) (H : Nat → Nat → Cx) (k : Int) (e : Ending) (w' : World) : Prop := ∃ A c, e = .returned (.tuple #[.slice A N c, .int .i64 k]) ∧ NSS w' (.slice A N c) N ML H ∧ Below w.heap.size w w'
def BothQ (w : World) (N : Nat) (ML : Nat → Nat) (H : Nat → Nat → Cx) (k : Int) (e : Ending) (w' : World) : Prop := ∃ A c, e = .returned (.tuple #[.slice A N c, .int .i64 k]) ∧ QSS w' (.slice A N c) N ML H ∧ Below w.heap.size w w'
theorem RetMatE.both {w : World} {n m : Nat} {F : Nat → Nat → Cx} {k : Int} {e : Ending} {w' : World} (h : RetMatE w n m F k e w') : BothN w n (fun _ => m) F k e w' := by
  obtain ⟨go, gi, rfl, hM, -, hb⟩ := h
  exact ⟨_, _, rfl, hM.nss _, hb⟩
/-- The sizes within which the rest goes. -/
def Fine (N : Nat) (ML : Nat → Nat) (H : Nat → Nat → Cx) : Prop := N ≤ 40 ∧ (∀ i, i < N → ML i ≤ 40) ∧ ∀ i k, i < N → k < ML i → Sz (H i k) 1000
theorem product_both (n p : Nat) (ml ml' : Nat → Nat) (F G : Nat → Nat → Cx) (hF : ∀ i k, Sz (F i k) 2) (hG : ∀ i k, Sz (G i k) 2) (hn : n ≤ 40) (hml : ∀ i, i < n → ml i ≤ 40) (hp : p ≤ 40) (hml' : ∀ i, i < p → ml' i ≤ 40) :
    ∃ (k : Int) (N : Nat) (ML : Nat → Nat) (H : Nat → Nat → Cx), Fine N ML H ∧
    (∀ w ga gi gb gj, Tab w → RagN w ga gi n ml F → RagN w gb gj p ml' G → Calls Tryz.prog 45 #[.slice (some ⟨ga, 0, none⟩) n n, .slice (some ⟨gb, 0, none⟩) p p] w (BothN w N ML H k)) ∧
    (∀ w ga gi gb gj, RagQ w ga gi n ml F → RagQ w gb gj p ml' G → Calls Tryz.prog 47 #[.slice (some ⟨ga, 0, none⟩) n n, .slice (some ⟨gb, 0, none⟩) p p] w (BothQ w N ML H k)) := by
  by_cases hok : Vld n ml ∧ Vld p ml' ∧ colsOf n ml = p
  · obtain ⟨v1, v2, hc⟩ := hok
    rcases Nat.eq_zero_or_pos n with h0 | h0
    · subst h0
      have : p = 0 := hc.symm
      subst this
      refine ⟨0, 0, fun _ => 0, fun _ _ => .zero, ⟨by omega, fun i hi => absurd hi (by omega), fun i k hi => absurd hi (by omega)⟩, fun w ga gi gb gj _ _ _ => ?_, fun w ga gi gb gj h h' => ?_⟩
      · exact (productN_nil w _ _ _ _).mono fun e w' h => h.both
      · refine (rProduct_p0 w _ _ 0 ml ml' F G (h.qss _) (h'.qss _) (by omega) (fun i hi => absurd hi (by omega))).mono ?_
        rintro e w' ⟨go, gk, rfl, hM, hb⟩
        exact ⟨_, _, rfl, QSS.nil _ _ _ _ _, hb⟩
    · have hc' : ml 0 = p := by
        unfold colsOf at hc
        rwa [if_neg (by omega)] at hc
      have hall : ∀ i, i < n → ml i = p := fun i hi => by rw [(v1.2 i hi).1, hc']
      rcases Nat.eq_zero_or_pos p with h1 | h1
      · subst h1
        refine ⟨0, n, fun _ => 0, fun _ _ => .zero, ⟨by omega, fun i hi => by (show 0 ≤ 40); omega, fun i k hi hk => absurd (show k < 0 from hk) (by omega)⟩, fun w ga gi gb gj _ h h' => ?_, fun w ga gi gb gj h h' => ?_⟩
        · exact (productN_p0 w _ _ n ml ml' F G (h.nss _) (h'.nss _) v1.1 hall).mono fun e w' h => h.both
        · refine (rProduct_p0 w _ _ n ml ml' F G (h.qss _) (h'.qss _) v1.1 hall).mono ?_
          rintro e w' ⟨go, gk, rfl, hM, hb⟩
          exact ⟨_, _, rfl, hM.qss _, hb⟩
      · have hall' : ∀ i, i < p → ml' i = ml' 0 := fun i hi => (v2.2 i hi).1
        have hq : ml' 0 ≤ 32 := (v2.2 0 h1).2
        have hp2 := v2.1
        refine ⟨0, n, fun _ => ml' 0, mulM p F G, ⟨by omega, fun i hi => (show ml' 0 ≤ 40 by omega), fun i k hi hk => ?_⟩, fun w ga gi gb gj hT h h' => ?_, fun w ga gi gb gj h h' => ?_⟩
        · refine (sm_sz (p := 5) p 0 fun j _ _ => ((hF i j).mul (hG j k)).mono (by omega)).mono ?_
          omega
        · exact (productN_any w ga gb gi gj n p (ml' 0) 2 2 F G (h.mat hall) (h'.mat hall') h0 h1 v1.1 v2.1 hq hT (fun a b _ _ => hF a b) (fun a b _ _ => hG a b) (by omega)).mono fun e w' h => h.both
        · refine (rProduct_ok w ga gb gi gj n p (ml' 0) n p 2 2 F G (h.mat hall) (h'.mat hall') h0 h1 v1.1 v2.1 hq (fun a b _ _ => hF a b) (fun a b _ _ => hG a b) (by omega)).mono ?_
          rintro e w' ⟨go, gk, rfl, hM, hb⟩
          exact ⟨_, _, rfl, hM.qss _, hb⟩
  · refine ⟨4, 0, fun _ => 0, fun _ _ => .zero, ⟨by omega, fun i hi => absurd hi (by omega), fun i k hi => absurd hi (by omega)⟩, fun w ga gi gb gj _ h h' => ?_, fun w ga gi gb gj h h' => ?_⟩
    · refine (productN_bad w _ _ n p ml ml' F G (h.nss _) (h'.nss _) (by omega) (by omega) (fun i hi => Nat.le_trans (hml i hi) (by omega)) (fun i hi => Nat.le_trans (hml' i hi) (by omega)) hok).mono ?_
      rintro e w' ⟨rfl, hb⟩
      exact ⟨_, _, rfl, NSS.nil _ _ _ _ _, hb⟩
    · refine (rProduct_bad w _ _ n p ml ml' F G (h.qss _) (h'.qss _) (by omega) (by omega) (fun i hi => Nat.le_trans (hml i hi) (by omega)) (fun i hi => Nat.le_trans (hml' i hi) (by omega)) hok).mono ?_
      rintro e w' ⟨rfl, hb⟩
      exact ⟨_, _, rfl, QSS.nil _ _ _ _ _, hb⟩
theorem adjoint_both (n : Nat) (ml : Nat → Nat) (F : Nat → Nat → Cx) (hF : ∀ i k, Sz (F i k) 2) (hn : n ≤ 40) (hml : ∀ i, i < n → ml i ≤ 40) :
    ∃ (k : Int) (N : Nat) (ML : Nat → Nat) (H : Nat → Nat → Cx), Fine N ML H ∧
    (∀ w ga gi, RagN w ga gi n ml F → Calls Tryz.prog 50 #[.slice (some ⟨ga, 0, none⟩) n n] w (BothN w N ML H k)) ∧
    (∀ w ga gi, RagQ w ga gi n ml F → Calls Tryz.prog 51 #[.slice (some ⟨ga, 0, none⟩) n n] w (BothQ w N ML H k)) := by
  by_cases hok : Vld n ml
  · rcases Nat.eq_zero_or_pos n with h0 | h0
    · subst h0
      refine ⟨0, 0, fun _ => 0, fun _ _ => .zero, ⟨by omega, fun i hi => absurd hi (by omega), fun i k hi => absurd hi (by omega)⟩, fun w ga gi _ => ?_, fun w ga gi h => ?_⟩
      · exact (adjointN_nil w _ _).mono fun e w' h => h.both
      · refine (rAdjoint_nil w _ _).mono ?_
        rintro e w' ⟨go, rfl, hb⟩
        exact ⟨_, _, rfl, QSS.nil _ _ _ _ _, hb⟩
    · have hall : ∀ i, i < n → ml i = ml 0 := fun i hi => (hok.2 i hi).1
      have h32 := (hok.2 0 h0).2
      refine ⟨0, ml 0, fun _ => n, adjM F, ⟨by omega, fun i hi => (show n ≤ 40 by omega), fun i k hi hk => (hF k i).conj.mono (by omega)⟩, fun w ga gi h => ?_, fun w ga gi h => ?_⟩
      · exact (adjointN_any w ga gi n (ml 0) F (h.mat hall) h0 hok.1 h32).mono fun e w' h => h.both
      · refine (rAdjoint_ok w ga gi n (ml 0) n F (h.mat hall) h0 hok.1 h32).mono ?_
        rintro e w' ⟨go, gk, rfl, hM, hb⟩
        exact ⟨_, _, rfl, hM.qss _, hb⟩
  · refine ⟨4, 0, fun _ => 0, fun _ _ => .zero, ⟨by omega, fun i hi => absurd hi (by omega), fun i k hi => absurd hi (by omega)⟩, fun w ga gi h => ?_, fun w ga gi h => ?_⟩
    · refine (adjointN_bad w _ n ml F (h.nss _) (by omega) (fun i hi => Nat.le_trans (hml i hi) (by omega)) hok).mono ?_
      rintro e w' ⟨rfl, hb⟩
      exact ⟨_, _, rfl, NSS.nil _ _ _ _ _, hb⟩
    · refine (rAdjoint_bad w _ n ml F (h.qss _) (by omega) (fun i hi => Nat.le_trans (hml i hi) (by omega)) hok).mono ?_
      rintro e w' ⟨rfl, hb⟩
      exact ⟨_, _, rfl, QSS.nil _ _ _ _ _, hb⟩
/-- A matrix. -/
def OneN (w : World) (N : Nat) (ML : Nat → Nat) (H : Nat → Nat → Cx) (e : Ending) (w' : World) : Prop := ∃ A c, e = .returned (.slice A N c) ∧ NSS w' (.slice A N c) N ML H ∧ Below w.heap.size w w'
def OneQ (w : World) (N : Nat) (ML : Nat → Nat) (H : Nat → Nat → Cx) (e : Ending) (w' : World) : Prop := ∃ A c, e = .returned (.slice A N c) ∧ QSS w' (.slice A N c) N ML H ∧ Below w.heap.size w w'
theorem uptoI_id {N : Nat} : ∀ i k, i < N → k < N → uptoI N i k = idF i k := fun i k hi hk => by
  unfold uptoI idF
  by_cases h : i = k
  · rw [if_pos ⟨h, hi⟩, if_pos h]
  · rw [if_neg (fun x => h x.1), if_neg h]
theorem idF_sz (i k : Nat) : Sz (idF i k) 1000 := by
  unfold idF
  split
  · exact Sz.int (by rw [show Int.natAbs 1 = 1 from rfl, wl_one]; omega) (by omega)
  · exact Sz.zero (by omega)
theorem identity_both (z : Int) : ∃ (N : Nat) (ML : Nat → Nat) (H : Nat → Nat → Cx), Fine N ML H ∧
    (∀ w, Calls Tryz.prog 53 #[.int .i64 z] w (OneN w N ML H)) ∧ ∀ w, Calls Tryz.prog 54 #[.int .i64 z] w (OneQ w N ML H) := by
  have key : ∀ N : Nat, N ≤ 32 → (∀ w, Calls Tryz.prog 53 #[.int .i64 z] w (RetMat w N N idF)) →
      (∀ w, Calls Tryz.prog 54 #[.int .i64 z] w fun e w' => ∃ go gk, e = .returned (.slice (some ⟨go, 0, none⟩) N N) ∧ MatQ w' go gk N N (uptoI N) ∧ Below w.heap.size w w') →
      ∃ (N : Nat) (ML : Nat → Nat) (H : Nat → Nat → Cx), Fine N ML H ∧ (∀ w, Calls Tryz.prog 53 #[.int .i64 z] w (OneN w N ML H)) ∧ ∀ w, Calls Tryz.prog 54 #[.int .i64 z] w (OneQ w N ML H) := fun N hN h1 h2 => by
    refine ⟨N, fun _ => N, idF, ⟨by omega, fun i hi => (show N ≤ 40 by omega), fun i k _ _ => idF_sz i k⟩, fun w => (h1 w).mono ?_, fun w => (h2 w).mono ?_⟩
    · rintro e w' ⟨go, gi, rfl, hM, -, hb⟩
      exact ⟨_, _, rfl, hM.nss _, hb⟩
    · rintro e w' ⟨go, gk, rfl, hM, hb⟩
      exact ⟨_, _, rfl, (hM.congr uptoI_id).qss _, hb⟩
  by_cases h1 : z < 0
  · exact key 0 (by omega) (fun w => identityN_neg w z h1) fun w => rIdentity_neg w z h1
  · by_cases h2 : 32 < z
    · exact key 32 (by omega) (fun w => identityN_big w z h2) fun w => rIdentity_big w z h2
    · obtain ⟨n, rfl⟩ : ∃ n : Nat, z = n := ⟨z.toNat, by omega⟩
      exact key n (by omega) (fun w => identityN_any w n (by omega)) fun w => rIdentity_in w n (by omega)
set_option maxHeartbeats 4000000 in
theorem numProducts_walk (w : World) (A A' : Option Addr) (n cap p cap' : Nat) (ml ml' : Nat → Nat) (f f' : Nat → Nat → Int × Int × Int) (z : Int) (hR : RatSS w A n ml f) (hR' : RatSS w A' p ml' f') (h64 : ∀ i, Rat64 (f i)) (h64' : ∀ i, Rat64 (f' i))
    (hl : n ≤ 9223372036854775807) (hp : p ≤ 9223372036854775807) (hml : ∀ i, i < n → ml i ≤ 9223372036854775807) (hml' : ∀ i, i < p → ml' i ≤ 9223372036854775807) (hT : Tab w) :
    Calls Tryz.prog 5 #[.slice A n cap, .slice A' p cap', .int .i64 z] w fun e w' => e = .returned (.bool true) ∧ Below w.heap.size w w' := by
  have HS1 := Lib.hid (fun W (hb : Below w.heap.size w W) => small_any2 W A n cap ml f (hR.below hb) hl hml)
  have HS2 := Lib.hid (fun W (hb : Below w.heap.size w W) => small_any2 W A' p cap' ml' f' (hR'.below hb) hp hml')
  have HAW := Lib.hid (fun W (hb : Below w.heap.size w W) => awake_any W (hT.below hb))
  have HT := Lib.hid hT
  have HRR := Lib.hid hR
  have HRR' := Lib.hid hR'
  have H64 := Lib.hid h64
  have H64' := Lib.hid h64'
  clear hR hR' h64 h64' hl hp hml hml' hT
  go_enter Tryz.func5, Tryz.ntmps5
  go_wp2_with fail
  refine (HS1.out w (Below.refl _ _)).mono ?_
  rintro e W1 ⟨b1, rfl, hs1, hb1⟩
  have X1 := Lib.hid hs1
  clear hs1
  cases b1
  · go_wp2_with fail
    refine (HAW.out _ hb1).mono ?_
    rintro e W2 ⟨rfl, hb2⟩
    go_wp2
    go_ret
    exact ⟨rfl, below_trans hb1 hb2⟩
  have KB1 := Lib.hid hb1
  clear hb1
  go_wp2_with fail
  refine (HS2.out W1 KB1.out).mono ?_
  rintro e W2 ⟨b2, rfl, hs2, hb2⟩
  have X2 := Lib.hid hs2
  have KB2 := Lib.hid (below_trans KB1.out hb2)
  clear hs2 hb2
  cases b2
  · go_wp2_with fail
    refine (HAW.out _ KB2.out).mono ?_
    rintro e W3 ⟨rfl, hb3⟩
    go_wp2
    go_ret
    exact ⟨rfl, below_trans KB2.out hb3⟩
  obtain ⟨hn, hml, -⟩ := X1.out (by trivial)
  obtain ⟨hp, hml', -⟩ := X2.out (by trivial)
  have HF : ∀ i k, Sz (ratF (f i) k) 2 := fun i k => by
    obtain ⟨⟨a1, a2⟩, ⟨a3, a4⟩, a5, a6⟩ := H64.out i k
    exact sz_of a1 a2 a3 a4 a5 a6
  have HG : ∀ i k, Sz (ratF (f' i) k) 2 := fun i k => by
    obtain ⟨⟨a1, a2⟩, ⟨a3, a4⟩, a5, a6⟩ := H64'.out i k
    exact sz_of a1 a2 a3 a4 a5 a6
  obtain ⟨k1, N1, M1, H1, hf1, hn1, hq1⟩ := product_both n p ml ml' (fun i => ratF (f i)) (fun i => ratF (f' i)) HF HG hn hml hp hml'
  obtain ⟨k2, N2, M2, H2, hf2, hn2, hq2⟩ := adjoint_both n ml (fun i => ratF (f i)) HF hn hml
  obtain ⟨N3, M3, H3, hf3, hn3, hq3⟩ := identity_both z
  have AR : Hid (∀ W (_ : Below w.heap.size w W) v u N ML H, Fine N ML H → NSS W v N ML H → QSS W u N ML H → Calls Tryz.prog 49 #[v, u] W fun e w' => e = .returned (.bool true) ∧ Below W.heap.size W w') :=
    Lib.hid (fun W hb v u N ML H hf h h' => areRows_any W v u N ML H h h' (HT.out.below hb) 1000 hf.2.2 (by omega) (Nat.le_trans hf.1 (by omega)) (fun i hi => Nat.le_trans (hf.2.1 i hi) (by omega)))
  have F1 := Lib.hid hf1
  have F2 := Lib.hid hf2
  have F3 := Lib.hid hf3
  have F4 : Hid (Fine p ml' (fun i => ratF (f' i))) := Lib.hid ⟨hp, hml', fun i k _ _ => (HG i k).mono (by omega)⟩
  have PN := Lib.hid hn1
  have PQ := Lib.hid hq1
  have AN := Lib.hid hn2
  have AQ := Lib.hid hq2
  have IN := Lib.hid hn3
  have IQ := Lib.hid hq3
  have R1 := Lib.hid (fun W (hb : Below w.heap.size w W) => rows_any W A n cap ml f (HRR.out.below hb) H64.out (by omega) (fun i hi => Nat.le_trans (hml i hi) (by omega)) (HT.out.below hb))
  have R2 := Lib.hid (fun W (hb : Below w.heap.size w W) => rows_any W A' p cap' ml' f' (HRR'.out.below hb) H64'.out (by omega) (fun i hi => Nat.le_trans (hml' i hi) (by omega)) (HT.out.below hb))
  have S1 := Lib.hid (fun W (hb : Below w.heap.size w W) => refrows_any W A n cap ml f (HRR.out.below hb) H64.out (by omega) (fun i hi => Nat.le_trans (hml i hi) (by omega)))
  have S2 := Lib.hid (fun W (hb : Below w.heap.size w W) => refrows_any W A' p cap' ml' f' (HRR'.out.below hb) H64'.out (by omega) (fun i hi => Nat.le_trans (hml' i hi) (by omega)))
  have LF := Lib.hid (fun W v (h : NSS W v p ml' (fun i => ratF (f' i))) => liftN_any W v p ml' _ h (by omega) (fun i hi => Nat.le_trans (hml' i hi) (by omega)))
  clear hn hml hp hml' HF HG hf1 hf2 hf3 hn1 hq1 hn2 hq2 hn3 hq3 X1 X2 HS1 HS2 KB1
  -- num.Product(Rows(a), Rows(b))
  go_wp2_with fail
  refine (R1.out W2 KB2.out).mono ?_
  rintro e W3 ⟨g3, rfl, hr3, -, hb3⟩
  have KB3 := Lib.hid (below_trans KB2.out hb3)
  have Y3 := Lib.hid hr3
  clear hr3 hb3
  go_wp2_with fail
  refine (R2.out W3 KB3.out).mono ?_
  rintro e W4 ⟨g4, rfl, hr4, -, hb4⟩
  have KB4 := Lib.hid (below_trans KB3.out hb4)
  have Z3 := Lib.hid (Y3.out.below hb4)
  have Y4 := Lib.hid hr4
  clear hr4 hb4 Y3
  go_wp2_with fail
  refine (PN.out W4 _ _ _ _ (HT.out.below KB4.out) Z3.out Y4.out).mono ?_
  rintro e W5 ⟨A5, c5, rfl, hr5, hb5⟩
  have KB5 := Lib.hid (below_trans KB4.out hb5)
  have Y5 := Lib.hid hr5
  clear hr5 hb5 Y4 Z3
  go_wp2_with fail
  -- ref.Product(refRows(a), refRows(b))
  refine (S1.out W5 KB5.out).mono ?_
  rintro e W6 ⟨g6, rfl, hr6, -, hb6⟩
  have KB6 := Lib.hid (below_trans KB5.out hb6)
  have Z5 := Lib.hid (Y5.out.below hb6)
  have Y6 := Lib.hid hr6
  clear hr6 hb6 Y5
  go_wp2_with fail
  refine (S2.out W6 KB6.out).mono ?_
  rintro e W7 ⟨g7, rfl, hr7, -, hb7⟩
  have KB7 := Lib.hid (below_trans KB6.out hb7)
  have Y5 := Lib.hid (Z5.out.below hb7)
  have Z6 := Lib.hid (Y6.out.below hb7)
  have Y7 := Lib.hid hr7
  clear hr7 hb7 Y6 Z5
  go_wp2_with fail
  refine (PQ.out W7 _ _ _ _ Z6.out Y7.out).mono ?_
  rintro e W8 ⟨A8, c8, rfl, hr8, hb8⟩
  have KB8 := Lib.hid (below_trans KB7.out hb8)
  have Z5 := Lib.hid (Y5.out.below hb8)
  have Y8 := Lib.hid hr8
  clear hr8 hb8 Y7 Z6 Y5
  go_wp2_with fail
  refine (AR.out W8 KB8.out _ _ _ _ _ F1.out Z5.out Y8.out).mono ?_
  rintro e W9 ⟨rfl, hb9⟩
  have KB9 := Lib.hid (below_trans KB8.out hb9)
  clear hb9 Z5 Y8
  go_wp2_with fail
  -- Adjoint
  refine (R1.out W9 KB9.out).mono ?_
  rintro e W3 ⟨g3, rfl, hr3, -, hb3⟩
  have KB3 := Lib.hid (below_trans KB9.out hb3)
  have Y3 := Lib.hid hr3
  clear hr3 hb3
  go_wp2_with fail
  refine (AN.out W3 _ _ Y3.out).mono ?_
  rintro e W4 ⟨A4, c4, rfl, hr4, hb4⟩
  have KB4 := Lib.hid (below_trans KB3.out hb4)
  have Y4 := Lib.hid hr4
  clear hr4 hb4 Y3
  go_wp2_with fail
  refine (S1.out W4 KB4.out).mono ?_
  rintro e W5 ⟨g5, rfl, hr5, -, hb5⟩
  have KB5 := Lib.hid (below_trans KB4.out hb5)
  have Z4 := Lib.hid (Y4.out.below hb5)
  have Y5 := Lib.hid hr5
  clear hr5 hb5 Y4
  go_wp2_with fail
  refine (AQ.out W5 _ _ Y5.out).mono ?_
  rintro e W6 ⟨A6, c6, rfl, hr6, hb6⟩
  have KB6 := Lib.hid (below_trans KB5.out hb6)
  have Y4 := Lib.hid (Z4.out.below hb6)
  have Y6 := Lib.hid hr6
  clear hr6 hb6 Y5 Z4
  go_wp2_with fail
  refine (AR.out W6 KB6.out _ _ _ _ _ F2.out Y4.out Y6.out).mono ?_
  rintro e W7 ⟨rfl, hb7⟩
  have KB7 := Lib.hid (below_trans KB6.out hb7)
  clear hb7 Y4 Y6
  go_wp2_with fail
  -- Lift
  refine (R2.out W7 KB7.out).mono ?_
  rintro e W3 ⟨g3, rfl, hr3, -, hb3⟩
  have KB3 := Lib.hid (below_trans KB7.out hb3)
  have Y3 := Lib.hid hr3
  clear hr3 hb3
  go_wp2_with fail
  refine (LF.out W3 _ (Y3.out.nss _)).mono ?_
  rintro e W4 ⟨g4, gi4, rfl, hr4, hb4⟩
  have KB4 := Lib.hid (below_trans KB3.out hb4)
  have Y4 := Lib.hid hr4
  clear hr4 hb4 Y3
  go_wp2_with fail
  refine (S2.out W4 KB4.out).mono ?_
  rintro e W5 ⟨g5, rfl, hr5, -, hb5⟩
  have KB5 := Lib.hid (below_trans KB4.out hb5)
  have Z4 := Lib.hid (Y4.out.below hb5)
  have Y5 := Lib.hid hr5
  clear hr5 hb5 Y4
  go_wp2_with fail
  refine (AR.out W5 KB5.out _ _ _ _ _ F4.out (Z4.out.nss _) (Y5.out.qss _)).mono ?_
  rintro e W6 ⟨rfl, hb6⟩
  have KB6 := Lib.hid (below_trans KB5.out hb6)
  clear hb6 Y5 Z4
  go_wp2_with fail
  -- Identity
  refine (IN.out W6).mono ?_
  rintro e W3 ⟨A3, c3, rfl, hr3, hb3⟩
  have KB3 := Lib.hid (below_trans KB6.out hb3)
  have Y3 := Lib.hid hr3
  clear hr3 hb3
  go_wp2_with fail
  refine (IQ.out W3).mono ?_
  rintro e W4 ⟨A4, c4, rfl, hr4, hb4⟩
  have KB4 := Lib.hid (below_trans KB3.out hb4)
  have Z3 := Lib.hid (Y3.out.below hb4)
  have Y4 := Lib.hid hr4
  clear hr4 hb4 Y3
  go_wp2_with fail
  refine (AR.out W4 KB4.out _ _ _ _ _ F3.out Z3.out Y4.out).mono ?_
  rintro e W5 ⟨rfl, hb5⟩
  have KB5 := Lib.hid (below_trans KB4.out hb5)
  clear hb5 Z3 Y4
  go_wp2_with fail
  refine (HAW.out _ KB5.out).mono ?_
  rintro e W6 ⟨rfl, hb6⟩
  go_wp2
  go_ret
  exact ⟨rfl, below_trans KB5.out hb6⟩
end Go.Proofs.YtlljeccfhmojnaaGreatDoor
