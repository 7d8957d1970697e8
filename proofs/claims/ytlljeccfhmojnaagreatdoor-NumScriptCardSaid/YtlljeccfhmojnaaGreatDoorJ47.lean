import Derived.Test.YtlljeccfhmojnaaGreatDoorJ28
import Derived.Test.YtlljeccfhmojnaaGreatDoorJ35
import Derived.Test.YtlljeccfhmojnaaGreatDoorJ38
import Derived.Test.YtlljeccfhmojnaaGreatDoorJ39
import Derived.Test.YtlljeccfhmojnaaGreatDoorJ42
import Derived.Test.YtlljeccfhmojnaaGreatDoorJ45
import Derived.Test.YtlljeccfhmojnaaGreatDoorJ46
set_option linter.unusedSimpArgs false
set_option linter.unusedVariables false
namespace Go.Proofs.YtlljeccfhmojnaaGreatDoor
open Go.RowKit
set_option maxRecDepth 100000
def ScriptRel (w : World) (len len' : Nat) (v5 v6 v35 : Value) (wr : World) : Prop := ∃ (i gl cl gm cm : Nat) (F : Nat → Cx), v35 = .int .i64 (i : Int) ∧ i ≤ len' ∧ v5 = .slice (some ⟨gl, 0, none⟩) (len + i) cl ∧ v6 = .slice (some ⟨gm, 0, none⟩) (len + i) cm ∧
  w.heap.size ≤ gl ∧ w.heap.size ≤ gm ∧ GL 27 IsNum wr gl cl (len + i) F ∧ GL 34 IsQ wr gm cm (len + i) F ∧ (∀ j, j < len + i → Sz (F j) 6000) ∧ Below w.heap.size w wr
theorem rem_nat (a n : Nat) : (a : Int).tmod (n : Int) = ((a % n : Nat) : Int) := by
  rw [Int.tmod_eq_emod_of_nonneg (by omega)]; rfl
theorem sgnR_nil {p : Rat} : sgnR p = 0 ↔ p = 0 := by unfold sgnR; rw [Int.sign_eq_zero_iff_zero, Rat.num_eq_zero]
theorem wrap_small {a : Int} (h0 : 0 ≤ a) (h : a < 9223372036854775808) : IntKind.i64.wrap a = a := by rw [IntKind.wrap_i64]; omega
set_option maxHeartbeats 8000000 in
theorem numScript_walk (w : World) (A A' : Option Addr) (len cap len' cap' : Nat) (f : Nat → Int × Int × Int) (op : Nat → Nat × Nat × Nat) (hR : RatS w A len f) (h64 : Rat64 f) (hl : len ≤ 9223372036854775807) (hO : OpS w A' len' op) (h16 : Op16 op) (hl' : len' ≤ 9223372036854775807) (hT : Tab w) :
    Calls Tryz.prog 4 #[.slice A len cap, .slice A' len' cap'] w fun e w' => e = .returned (.bool true) ∧ Below w.heap.size w w' := by
  have HAW := Lib.hid (fun W (hb : Below w.heap.size w W) => awake_any W (hT.below hb))
  have HT := Lib.hid hT
  have HRR := Lib.hid hR
  have H64 := Lib.hid h64
  have HO := Lib.hid hO
  have H16 := Lib.hid h16
  clear hR h64 hO h16 hT
  go_enter Tryz.func4, Tryz.ntmps4
  by_cases h0 : len = 0
  · subst h0
    go_wp2_with fail
    refine (HAW.out _ bel).mono ?_
    rintro e W2 ⟨rfl, hb2⟩
    go_wp2
    go_ret
    exact ⟨rfl, hb2⟩
  have d0 : decide ((len : Int) = 0) = false := by simp; omega
  by_cases h20 : 20 < len
  · have d20 : decide ((20 : Int) < (len : Int)) = true := by simp; omega
    go_wp2_with fail
    refine (HAW.out _ bel).mono ?_
    rintro e W2 ⟨rfl, hb2⟩
    go_wp2
    go_ret
    exact ⟨rfl, hb2⟩
  have d20 : decide ((20 : Int) < (len : Int)) = false := by simp; omega
  by_cases h30 : 30 < len'
  · have d30 : decide ((30 : Int) < (len' : Int)) = true := by simp; omega
    go_wp2_with fail
    refine (HAW.out _ bel).mono ?_
    rintro e W2 ⟨rfl, hb2⟩
    go_wp2
    go_ret
    exact ⟨rfl, hb2⟩
  have d30 : decide ((30 : Int) < (len' : Int)) = false := by simp; omega
  have HSZ := Lib.hid (show ∀ i, Sz (ratF f i) 6000 from fun i => by
    obtain ⟨⟨a1, a2⟩, ⟨a3, a4⟩, a5, a6⟩ := H64.out i
    exact (sz_of a1 a2 a3 a4 a5 a6).mono (by omega))
  have HL := Lib.hid (list_any w A len cap f HRR.out H64.out (by omega) HT.out)
  have HM := Lib.hid (fun W (hb : Below w.heap.size w W) => reflist_any W A len cap f (HRR.out.below hb) H64.out (by omega))
  clear HRR H64
  go_wp2_with fail
  refine HL.out.mono ?_
  rintro e W1 ⟨rfl, hN1, hb1⟩
  have KB1 := Lib.hid hb1
  have KN1 := Lib.hid hN1
  clear hb1 hN1 HL
  go_wp2_with fail
  refine (HM.out W1 KB1.out).mono ?_
  rintro e W2 ⟨rfl, hQ2, hb2⟩
  have KB2 := Lib.hid (below_trans KB1.out hb2)
  have KN2 := Lib.hid ((KN1.out.below hb2).gl)
  have KQ2 := Lib.hid (hQ2.gl fun _ _ => trivial)
  have hge := KB1.out.size
  clear hb2 hQ2 HM KN1 KB1
  go_wp2_with fail
  go_loopw [5, 6, 35] (fun v5 v6 v35 wr => ScriptRel w len len' v5 v6 v35 wr) (fun _ _ v35 _ => len' - (intOf v35).toNat)
  case atStart => exact ⟨0, _, _, _, _, ratF f, rfl, by omega, rfl, rfl, Nat.le_refl _, hge, KN2.out, KQ2.out, fun j _ => HSZ.out j, KB2.out⟩
  case round =>
    clear HSZ KN2 KQ2 KB2 hge
    obtain ⟨i, gl, cl, gm, cm, F, rfl, hi, rfl, rfl, lgl, lgm, hGL, hGM, hS, hB⟩ := hrel
    have KB := Lib.hid hB
    have HL := Lib.hid hGL
    have HM := Lib.hid hGM
    have HS := Lib.hid hS
    clear hB hGL hGM hS
    obtain ⟨nn, hnn⟩ : ∃ nn, nn = len + i := ⟨_, rfl⟩
    rw [← hnn] at HL HM HS ⊢
    have hnp : 0 < nn := by omega
    have hnl : nn < 60 := by omega
    have KNN := Lib.hid hnn
    clear hnn
    by_cases hlt : i < len'
    · obtain ⟨ob, off, rfl, -, -⟩ := HO.out (by omega)
      have hq : ∀ W, Below w.heap.size w W → W.cell? ⟨ob, off + 3 * i, none⟩ = some (.int .u8 ((op i).1 : Nat)) ∧ W.cell? ⟨ob, off + 3 * i + 1, none⟩ = some (.int .u16 ((op i).2.1 : Nat)) ∧ W.cell? ⟨ob, off + 3 * i + 2, none⟩ = some (.int .u16 ((op i).2.2 : Nat)) := fun W hb => (HO.out.below (Nat.le_refl _) hb).cells hlt
      obtain ⟨hk8, ha16, hb16⟩ := H16.out i
      generalize (op i).1 = kk at hq hk8
      generalize (op i).2.1 = aa at hq ha16
      generalize (op i).2.2 = bb at hq hb16
      have HQ := Lib.hid hq
      clear hq HO H16
      have hd : decide ((i : Int) < (len' : Int)) = true := by simp; omega
      have hi0 : (0 : Int) ≤ (i : Int) := by omega
      have hi1 : (i : Int) < (len' : Int) := by omega
      go_upto_region 6 with fail
      refine region_lit [.val (kIs (.pointer (some ⟨ob, off + 3 * i, none⟩))), .val (kIs (.agg #[.int .u8 (kk : Int), .int .u16 (aa : Int), .int .u16 (bb : Int)])), .box 50 zOp, .put 2 1]
        ?fl1 ?hfl1 (by kernel_rfl) (by kernel_rfl) (by kernel_rfl) (by kernel_rfl) (by kernel_rfl) ⟨stab_is _, stab_is _, trivial⟩ (by simp) ⟨?_, ?_, alloc_op, store_opIs _ _ _, trivial⟩ ?_
      case hfl1 => intro ts; simp only [fillT, Nat.zero_add, Nat.reduceAdd, sA, sB, sC]; rfl
      · intro ts W hb hB hp; intro K hK; dsimp only at hK ⊢; have HK := Lib.hid hK; clear hK hp; refine ⟨?_⟩; go_simp; exact HK.out _ _ (by simp [kIs, Nat.mul_comm]) (Below.refl _ _)
      · intro ts W hb hB hp; have h0 : ts 0 = _ := hp 0 (by kernel_rfl); intro K hK; simp only [h0] at hK ⊢; have HK := Lib.hid hK; clear hK hp; obtain ⟨q0, q1, q2⟩ := HQ.out W (below_trans KB.out hb); refine ⟨?_⟩; refine wp_load_op rfl rfl q0 q1 q2 ?_; exact HK.out _ _ rfl (Below.refl _ _)
      intro ts W2 hb2 hh hap
      obtain ⟨g8, e2, lo8, z8, X8⟩ := held_boxO (cs := #[.int .u8 (kk : Int), .int .u16 (aa : Int), .int .u16 (bb : Int)]) (hh 2 (by simp)) rfl (hh 3 (by simp)) rfl (hh 1 (by simp)) rfl
      simp only [e2]
      clear hh hap e2
      generalize ts 0 = u0_W2 at *
      generalize ts 1 = u1_W2 at *
      clear ts
      have KB2 := Lib.hid hb2
      have HL2 := Lib.hid (HL.out.below five_num hb2)
      have HM2 := Lib.hid (HM.out.below five_q hb2)
      have wa : IntKind.i64.wrap (aa : Int) = (aa : Int) := wrap_small (by omega) (by omega)
      have wb : IntKind.i64.wrap (bb : Int) = (bb : Int) := wrap_small (by omega) (by omega)
      have hn0 : ¬ nn = 0 := by omega
      have hi2 : (0 : Int) ≤ (nn : Int) := by omega
      have hma : aa % nn < nn := Nat.mod_lt _ (by omega)
      have hmb : bb % nn < nn := Nat.mod_lt _ (by omega)
      have ra := rem_nat aa nn
      have rb := rem_nat bb nn
      have wra : IntKind.i64.wrap ((aa % nn : Nat) : Int) = ((aa % nn : Nat) : Int) := wrap_small (by omega) (by omega)
      have wrb : IntKind.i64.wrap ((bb % nn : Nat) : Int) = ((bb % nn : Nat) : Int) := wrap_small (by omega) (by omega)
      generalize hma' : aa % nn = ma at hma ra wra
      generalize hmb' : bb % nn = mb at hmb rb wrb
      have ha0 : (0 : Int) ≤ (ma : Int) := by omega
      have ha1 : (ma : Int) < (nn : Int) := by omega
      have hb0 : (0 : Int) ≤ (mb : Int) := by omega
      have hb1 : (mb : Int) < (nn : Int) := by omega
      clear hb2 hma' hmb' HQ
      go_upto_region 7 with fail
      refine region_lit [.val (kIs (.slice (some ⟨gl, 0, none⟩) nn cl)), .val (kIs (.pointer (some ⟨g8, 1, none⟩))), .val (kIs (.int .u16 (aa : Int))), .val (kIs (.int .i64 (aa : Int))), .val (kIs (.slice (some ⟨gl, 0, none⟩) nn cl)), .val (kIs (.int .i64 (nn : Int))), .val (kIs (.int .i64 (ma : Int))), .val (kIs (.pointer (some ⟨gl, 5 * ma, none⟩))), .val (kNum (F ma)), .val (kIs (.slice (some ⟨gl, 0, none⟩) nn cl)), .val (kIs (.pointer (some ⟨g8, 2, none⟩))), .val (kIs (.int .u16 (bb : Int))), .val (kIs (.int .i64 (bb : Int))), .val (kIs (.slice (some ⟨gl, 0, none⟩) nn cl)), .val (kIs (.int .i64 (nn : Int))), .val (kIs (.int .i64 (mb : Int))), .val (kIs (.pointer (some ⟨gl, 5 * mb, none⟩))), .val (kNum (F mb)), .box 27 zNum, .box 27 zNum, .put 18 8, .put 19 17]
        ?fl2 ?hfl2 (by kernel_rfl) (by kernel_rfl) (by kernel_rfl) (by kernel_rfl) (by kernel_rfl) ⟨stab_is _, stab_is _, stab_is _, stab_is _, stab_is _, stab_is _, stab_is _, stab_is _, stab_num _, stab_is _, stab_is _, stab_is _, stab_is _, stab_is _, stab_is _, stab_is _, stab_is _, stab_num _, trivial⟩ (by simp) ⟨?_, ?_, ?_, ?_, ?_, ?_, ?_, ?_, ?_, ?_, ?_, ?_, ?_, ?_, ?_, ?_, ?_, ?_, alloc_num, alloc_num, store_num _, store_num _, trivial⟩ ?_
      case hfl2 => intro ts; simp only [fillT, Nat.zero_add, Nat.reduceAdd, sA, sB, sC]; rfl
      · intro ts W hb hB hp; intro K hK; dsimp only at hK ⊢; have HK := Lib.hid hK; clear hK hp; refine ⟨?_⟩; go_simp; exact HK.out _ _ rfl (Below.refl _ _)
      · intro ts W hb hB hp; intro K hK; dsimp only at hK ⊢; have HK := Lib.hid hK; clear hK hp; refine ⟨?_⟩; go_simp; exact HK.out _ _ rfl (Below.refl _ _)
      · intro ts W hb hB hp; have h1 : ts 1 = _ := hp 1 (by kernel_rfl); intro K hK; simp only [h1] at hK ⊢; have HK := Lib.hid hK; clear hK hp; have hc : W.cell? ⟨g8, 1, none⟩ = some (.int .u16 (aa : Int)) := (by rw [cell_of_row W g8 1 _ _ (0, 0) ((hb.block _ z8).trans X8)]; rfl); refine ⟨?_⟩; go_simp; exact HK.out _ _ rfl (Below.refl _ _)
      · intro ts W hb hB hp; have h2 : ts 2 = _ := hp 2 (by kernel_rfl); intro K hK; simp only [h2] at hK ⊢; have HK := Lib.hid hK; clear hK hp; refine ⟨?_⟩; go_simp; exact HK.out _ _ rfl (Below.refl _ _)
      · intro ts W hb hB hp; intro K hK; dsimp only at hK ⊢; have HK := Lib.hid hK; clear hK hp; refine ⟨?_⟩; go_simp; exact HK.out _ _ rfl (Below.refl _ _)
      · intro ts W hb hB hp; have h4 : ts 4 = _ := hp 4 (by kernel_rfl); intro K hK; simp only [h4] at hK ⊢; have HK := Lib.hid hK; clear hK hp; refine ⟨?_⟩; go_simp; exact HK.out _ _ rfl (Below.refl _ _)
      · intro ts W hb hB hp; have h3 : ts 3 = _ := hp 3 (by kernel_rfl); have h5 : ts 5 = _ := hp 5 (by kernel_rfl); intro K hK; simp only [h3, h5] at hK ⊢; have HK := Lib.hid hK; clear hK hp; refine ⟨?_⟩; go_simp; exact HK.out _ _ rfl (Below.refl _ _)
      · intro ts W hb hB hp; have h0 : ts 0 = _ := hp 0 (by kernel_rfl); have h6 : ts 6 = _ := hp 6 (by kernel_rfl); intro K hK; simp only [h0, h6] at hK ⊢; have HK := Lib.hid hK; clear hK hp; refine ⟨?_⟩; go_simp; exact HK.out _ _ (by simp [kIs, Nat.mul_comm]) (Below.refl _ _)
      · intro ts W hb hB hp; have h7 : ts 7 = _ := hp 7 (by kernel_rfl); intro K hK; simp only [h7] at hK ⊢; have HK := Lib.hid hK; clear hK hp; refine ⟨?_⟩; refine wp_load_gn rfl rfl (HL2.out.below five_num hb) hma (fun v hv => HK.out _ _ hv (Below.refl _ _))
      · intro ts W hb hB hp; intro K hK; dsimp only at hK ⊢; have HK := Lib.hid hK; clear hK hp; refine ⟨?_⟩; go_simp; exact HK.out _ _ rfl (Below.refl _ _)
      · intro ts W hb hB hp; intro K hK; dsimp only at hK ⊢; have HK := Lib.hid hK; clear hK hp; refine ⟨?_⟩; go_simp; exact HK.out _ _ rfl (Below.refl _ _)
      · intro ts W hb hB hp; have h10 : ts 10 = _ := hp 10 (by kernel_rfl); intro K hK; simp only [h10] at hK ⊢; have HK := Lib.hid hK; clear hK hp; have hc : W.cell? ⟨g8, 2, none⟩ = some (.int .u16 (bb : Int)) := (by rw [cell_of_row W g8 2 _ _ (0, 0) ((hb.block _ z8).trans X8)]; rfl); refine ⟨?_⟩; go_simp; exact HK.out _ _ rfl (Below.refl _ _)
      · intro ts W hb hB hp; have h11 : ts 11 = _ := hp 11 (by kernel_rfl); intro K hK; simp only [h11] at hK ⊢; have HK := Lib.hid hK; clear hK hp; refine ⟨?_⟩; go_simp; exact HK.out _ _ rfl (Below.refl _ _)
      · intro ts W hb hB hp; intro K hK; dsimp only at hK ⊢; have HK := Lib.hid hK; clear hK hp; refine ⟨?_⟩; go_simp; exact HK.out _ _ rfl (Below.refl _ _)
      · intro ts W hb hB hp; have h13 : ts 13 = _ := hp 13 (by kernel_rfl); intro K hK; simp only [h13] at hK ⊢; have HK := Lib.hid hK; clear hK hp; refine ⟨?_⟩; go_simp; exact HK.out _ _ rfl (Below.refl _ _)
      · intro ts W hb hB hp; have h12 : ts 12 = _ := hp 12 (by kernel_rfl); have h14 : ts 14 = _ := hp 14 (by kernel_rfl); intro K hK; simp only [h12, h14] at hK ⊢; have HK := Lib.hid hK; clear hK hp; refine ⟨?_⟩; go_simp; exact HK.out _ _ rfl (Below.refl _ _)
      · intro ts W hb hB hp; have h9 : ts 9 = _ := hp 9 (by kernel_rfl); have h15 : ts 15 = _ := hp 15 (by kernel_rfl); intro K hK; simp only [h9, h15] at hK ⊢; have HK := Lib.hid hK; clear hK hp; refine ⟨?_⟩; go_simp; exact HK.out _ _ (by simp [kIs, Nat.mul_comm]) (Below.refl _ _)
      · intro ts W hb hB hp; have h16 : ts 16 = _ := hp 16 (by kernel_rfl); intro K hK; simp only [h16] at hK ⊢; have HK := Lib.hid hK; clear hK hp; refine ⟨?_⟩; refine wp_load_gn rfl rfl (HL2.out.below five_num hb) hmb (fun v hv => HK.out _ _ hv (Below.refl _ _))
      intro ts W3 hb3 hh hap
      obtain ⟨g9, e18, lo9, N9⟩ := (held_box (x := F ma) (hh 18 (by simp)) rfl (hh 20 (by simp)) rfl (hh 8 (by simp)) rfl).blk
      obtain ⟨g10, e19, lo10, N10⟩ := (held_box (x := F mb) (hh 19 (by simp)) rfl (hh 21 (by simp)) rfl (hh 17 (by simp)) rfl).blk
      have ne := hap 18 19 (by simp) (by simp) (by decide)
      have ne9 : g9 ≠ g10 := by
        have ne' : ts 18 ≠ ts 19 := ne
        rw [e18, e19] at ne'
        exact fun e => ne' (by rw [e])
      simp only [e18, e19]
      clear hh hap e18 e19 ne
      generalize ts 0 = u0_W3 at *
      generalize ts 1 = u1_W3 at *
      generalize ts 2 = u2_W3 at *
      generalize ts 3 = u3_W3 at *
      generalize ts 4 = u4_W3 at *
      generalize ts 5 = u5_W3 at *
      generalize ts 6 = u6_W3 at *
      generalize ts 7 = u7_W3 at *
      generalize ts 8 = u8_W3 at *
      generalize ts 9 = u9_W3 at *
      generalize ts 10 = u10_W3 at *
      generalize ts 11 = u11_W3 at *
      generalize ts 12 = u12_W3 at *
      generalize ts 13 = u13_W3 at *
      generalize ts 14 = u14_W3 at *
      generalize ts 15 = u15_W3 at *
      generalize ts 16 = u16_W3 at *
      generalize ts 17 = u17_W3 at *
      clear ts
      have KB3 := Lib.hid (below_trans KB2.out hb3)
      have X8b := (hb3.block _ z8).trans X8
      have z8b : g8 < W3.heap.size := Nat.lt_of_lt_of_le z8 hb3.size
      have HL3 := Lib.hid (HL2.out.below five_num hb3)
      have HM3 := Lib.hid (HM2.out.below five_q hb3)
      have KN9 := Lib.hid N9
      have KN10 := Lib.hid N10
      have s23 := hb3.size
      clear hb3 N9 N10 X8 HL2 HM2
      go_upto_region 8 with fail
      refine region_lit [.val (kIs (.slice (some ⟨gm, 0, none⟩) nn cm)), .val (kIs (.pointer (some ⟨g8, 1, none⟩))), .val (kIs (.int .u16 (aa : Int))), .val (kIs (.int .i64 (aa : Int))), .val (kIs (.slice (some ⟨gm, 0, none⟩) nn cm)), .val (kIs (.int .i64 (nn : Int))), .val (kIs (.int .i64 (ma : Int))), .val (kIs (.pointer (some ⟨gm, 5 * ma, none⟩))), .val (kQ (F ma)), .val (kIs (.slice (some ⟨gm, 0, none⟩) nn cm)), .val (kIs (.pointer (some ⟨g8, 2, none⟩))), .val (kIs (.int .u16 (bb : Int))), .val (kIs (.int .i64 (bb : Int))), .val (kIs (.slice (some ⟨gm, 0, none⟩) nn cm)), .val (kIs (.int .i64 (nn : Int))), .val (kIs (.int .i64 (mb : Int))), .val (kIs (.pointer (some ⟨gm, 5 * mb, none⟩))), .val (kQ (F mb)), .box 34 zQ, .box 34 zQ, .put 18 8, .put 19 17]
        ?fl3 ?hfl3 (by kernel_rfl) (by kernel_rfl) (by kernel_rfl) (by kernel_rfl) (by kernel_rfl) ⟨stab_is _, stab_is _, stab_is _, stab_is _, stab_is _, stab_is _, stab_is _, stab_is _, stab_q _, stab_is _, stab_is _, stab_is _, stab_is _, stab_is _, stab_is _, stab_is _, stab_is _, stab_q _, trivial⟩ (by simp) ⟨?_, ?_, ?_, ?_, ?_, ?_, ?_, ?_, ?_, ?_, ?_, ?_, ?_, ?_, ?_, ?_, ?_, ?_, alloc_q, alloc_q, store_q _, store_q _, trivial⟩ ?_
      case hfl3 => intro ts; simp only [fillT, Nat.zero_add, Nat.reduceAdd, sA, sB, sC]; rfl
      · intro ts W hb hB hp; intro K hK; dsimp only at hK ⊢; have HK := Lib.hid hK; clear hK hp; refine ⟨?_⟩; go_simp; exact HK.out _ _ rfl (Below.refl _ _)
      · intro ts W hb hB hp; intro K hK; dsimp only at hK ⊢; have HK := Lib.hid hK; clear hK hp; refine ⟨?_⟩; go_simp; exact HK.out _ _ rfl (Below.refl _ _)
      · intro ts W hb hB hp; have h1 : ts 1 = _ := hp 1 (by kernel_rfl); intro K hK; simp only [h1] at hK ⊢; have HK := Lib.hid hK; clear hK hp; have hc : W.cell? ⟨g8, 1, none⟩ = some (.int .u16 (aa : Int)) := (by rw [cell_of_row W g8 1 _ _ (0, 0) ((hb.block _ z8b).trans X8b)]; rfl); refine ⟨?_⟩; go_simp; exact HK.out _ _ rfl (Below.refl _ _)
      · intro ts W hb hB hp; have h2 : ts 2 = _ := hp 2 (by kernel_rfl); intro K hK; simp only [h2] at hK ⊢; have HK := Lib.hid hK; clear hK hp; refine ⟨?_⟩; go_simp; exact HK.out _ _ rfl (Below.refl _ _)
      · intro ts W hb hB hp; intro K hK; dsimp only at hK ⊢; have HK := Lib.hid hK; clear hK hp; refine ⟨?_⟩; go_simp; exact HK.out _ _ rfl (Below.refl _ _)
      · intro ts W hb hB hp; have h4 : ts 4 = _ := hp 4 (by kernel_rfl); intro K hK; simp only [h4] at hK ⊢; have HK := Lib.hid hK; clear hK hp; refine ⟨?_⟩; go_simp; exact HK.out _ _ rfl (Below.refl _ _)
      · intro ts W hb hB hp; have h3 : ts 3 = _ := hp 3 (by kernel_rfl); have h5 : ts 5 = _ := hp 5 (by kernel_rfl); intro K hK; simp only [h3, h5] at hK ⊢; have HK := Lib.hid hK; clear hK hp; refine ⟨?_⟩; go_simp; exact HK.out _ _ rfl (Below.refl _ _)
      · intro ts W hb hB hp; have h0 : ts 0 = _ := hp 0 (by kernel_rfl); have h6 : ts 6 = _ := hp 6 (by kernel_rfl); intro K hK; simp only [h0, h6] at hK ⊢; have HK := Lib.hid hK; clear hK hp; refine ⟨?_⟩; go_simp; exact HK.out _ _ (by simp [kIs, Nat.mul_comm]) (Below.refl _ _)
      · intro ts W hb hB hp; have h7 : ts 7 = _ := hp 7 (by kernel_rfl); intro K hK; simp only [h7] at hK ⊢; have HK := Lib.hid hK; clear hK hp; refine ⟨?_⟩; refine wp_load_gq rfl rfl (HM3.out.below five_q hb) hma (fun v hv => HK.out _ _ hv (Below.refl _ _))
      · intro ts W hb hB hp; intro K hK; dsimp only at hK ⊢; have HK := Lib.hid hK; clear hK hp; refine ⟨?_⟩; go_simp; exact HK.out _ _ rfl (Below.refl _ _)
      · intro ts W hb hB hp; intro K hK; dsimp only at hK ⊢; have HK := Lib.hid hK; clear hK hp; refine ⟨?_⟩; go_simp; exact HK.out _ _ rfl (Below.refl _ _)
      · intro ts W hb hB hp; have h10 : ts 10 = _ := hp 10 (by kernel_rfl); intro K hK; simp only [h10] at hK ⊢; have HK := Lib.hid hK; clear hK hp; have hc : W.cell? ⟨g8, 2, none⟩ = some (.int .u16 (bb : Int)) := (by rw [cell_of_row W g8 2 _ _ (0, 0) ((hb.block _ z8b).trans X8b)]; rfl); refine ⟨?_⟩; go_simp; exact HK.out _ _ rfl (Below.refl _ _)
      · intro ts W hb hB hp; have h11 : ts 11 = _ := hp 11 (by kernel_rfl); intro K hK; simp only [h11] at hK ⊢; have HK := Lib.hid hK; clear hK hp; refine ⟨?_⟩; go_simp; exact HK.out _ _ rfl (Below.refl _ _)
      · intro ts W hb hB hp; intro K hK; dsimp only at hK ⊢; have HK := Lib.hid hK; clear hK hp; refine ⟨?_⟩; go_simp; exact HK.out _ _ rfl (Below.refl _ _)
      · intro ts W hb hB hp; have h13 : ts 13 = _ := hp 13 (by kernel_rfl); intro K hK; simp only [h13] at hK ⊢; have HK := Lib.hid hK; clear hK hp; refine ⟨?_⟩; go_simp; exact HK.out _ _ rfl (Below.refl _ _)
      · intro ts W hb hB hp; have h12 : ts 12 = _ := hp 12 (by kernel_rfl); have h14 : ts 14 = _ := hp 14 (by kernel_rfl); intro K hK; simp only [h12, h14] at hK ⊢; have HK := Lib.hid hK; clear hK hp; refine ⟨?_⟩; go_simp; exact HK.out _ _ rfl (Below.refl _ _)
      · intro ts W hb hB hp; have h9 : ts 9 = _ := hp 9 (by kernel_rfl); have h15 : ts 15 = _ := hp 15 (by kernel_rfl); intro K hK; simp only [h9, h15] at hK ⊢; have HK := Lib.hid hK; clear hK hp; refine ⟨?_⟩; go_simp; exact HK.out _ _ (by simp [kIs, Nat.mul_comm]) (Below.refl _ _)
      · intro ts W hb hB hp; have h16 : ts 16 = _ := hp 16 (by kernel_rfl); intro K hK; simp only [h16] at hK ⊢; have HK := Lib.hid hK; clear hK hp; refine ⟨?_⟩; refine wp_load_gq rfl rfl (HM3.out.below five_q hb) hmb (fun v hv => HK.out _ _ hv (Below.refl _ _))
      intro ts W4 hb4 hh hap
      obtain ⟨g11, e18, lo11, N11⟩ := (held_boxQ (x := F ma) (hh 18 (by simp)) rfl (hh 20 (by simp)) rfl (hh 8 (by simp)) rfl).blk
      obtain ⟨g12, e19, lo12, N12⟩ := (held_boxQ (x := F mb) (hh 19 (by simp)) rfl (hh 21 (by simp)) rfl (hh 17 (by simp)) rfl).blk
      have ne := hap 18 19 (by simp) (by simp) (by decide)
      have ne11 : g11 ≠ g12 := by
        have ne' : ts 18 ≠ ts 19 := ne
        rw [e18, e19] at ne'
        exact fun e => ne' (by rw [e])
      simp only [e18, e19]
      clear hh hap e18 e19 ne
      generalize ts 0 = u0_W4 at *
      generalize ts 1 = u1_W4 at *
      generalize ts 2 = u2_W4 at *
      generalize ts 3 = u3_W4 at *
      generalize ts 4 = u4_W4 at *
      generalize ts 5 = u5_W4 at *
      generalize ts 6 = u6_W4 at *
      generalize ts 7 = u7_W4 at *
      generalize ts 8 = u8_W4 at *
      generalize ts 9 = u9_W4 at *
      generalize ts 10 = u10_W4 at *
      generalize ts 11 = u11_W4 at *
      generalize ts 12 = u12_W4 at *
      generalize ts 13 = u13_W4 at *
      generalize ts 14 = u14_W4 at *
      generalize ts 15 = u15_W4 at *
      generalize ts 16 = u16_W4 at *
      generalize ts 17 = u17_W4 at *
      clear ts
      have s2 := KB2.out.size
      have s3 := KB3.out.size
      have KMid := Lib.hid (show Mid wr.heap.size wr g9 g10 g11 g12 (F mb) (F ma) (F ma) W4 from ⟨by omega, by omega, ne9, ne11, KN9.out.below hb4, KN10.out.below hb4, N11, N12, below_trans KB3.out hb4⟩)
      have c8 : W4.cell? ⟨g8, 0, none⟩ = some (.int .u8 (kk : Int)) := by rw [cell_of_row W4 g8 0 _ _ (0, 0) ((hb4.block _ z8b).trans X8b)]; rfl
      have KX := Lib.hid (HS.out ma hma)
      have KY := Lib.hid (HS.out mb hmb)
      generalize F ma = x at KMid KX
      generalize F mb = y at KMid KY
      have HT4 := Lib.hid (fun W (hb : Below wr.heap.size wr W) => HT.out.below (below_trans KB.out hb))
      obtain ⟨kr, hkr⟩ : ∃ kr, kr = kk % 9 := ⟨_, rfl⟩
      have hk9 : kr < 9 := by omega
      have rk9 : (kk : Int).tmod 9 = (kr : Int) := by rw [hkr]; exact rem_nat kk 9
      have wk9 : IntKind.u8.wrap (kr : Int) = (kr : Int) := by rw [IntKind.wrap_u8]; omega
      clear hb4 N11 N12 X8b HL3 HM3 KN9 KN10 z8b s2 s3 s23 lo8 lo9 lo10 lo11 lo12 ne9 ne11 z8 KB2 KB3 hma hmb ra rb wra wrb wa wb hn0 hk8 ha16 hb16 hkr
      go_upto_block 2 with fail
      go_cut [13, 14] from 36 to 212 (fun s13 s14 wx => ∃ (k : Int) (z : Cx), s13 = .int .i64 k ∧ s14 = .int .i64 k ∧ Sz z 30000 ∧ Mid wr.heap.size wr g9 g10 g11 g12 y z z wx)
      case first =>
        have hkc : kr = 0 ∨ kr = 1 ∨ kr = 2 ∨ kr = 3 ∨ kr = 4 ∨ kr = 5 ∨ kr = 6 ∨ kr = 7 ∨ kr = 8 := by omega
        clear rk9 wk9 hk9 c8 HL HM HS
        rcases hkc with rfl | rfl | rfl | rfl | rfl | rfl | rfl | rfl | rfl
        · go_upto_region 13 with fail
          refine region_last2A [.val (kNum (x)), .val (kNum (y)), .val (kNum (x.add y)), .val (kQ (x)), .val (kQ (y)), .val (kQ (x.add y))]
            ?fl4 ?hfl4 (by kernel_rfl) (by kernel_rfl) (by kernel_rfl) (by kernel_rfl) (by kernel_rfl) ⟨Stab.b (stab_num _), Stab.b (stab_num _), Stab.b (stab_num _), Stab.b (stab_q _), Stab.b (stab_q _), Stab.b (stab_q _), trivial⟩ (by simp) (o1 := _) (o2 := _) rfl rfl (by kernel_rfl) (by kernel_rfl) ⟨?_, ?_, ?_, ?_, ?_, ?_, trivial⟩ ?_
          case hfl4 => intro ts; simp only [fillT, Nat.zero_add, Nat.reduceAdd, sA, sB, sC]; rfl
          · intro ts W a ha hb hB hp; intro K hK; exact ⟨wp_load_elem (k := 0) rfl ((ha 9).trans (by kernel_rfl)) (KMid.out.b9.below hb) (by omega) fun v hv => hK v W hv (Below.refl _ _)⟩
          · intro ts W a ha hb hB hp; intro K hK; exact ⟨wp_load_elem (k := 0) rfl ((ha 10).trans (by kernel_rfl)) (KMid.out.b10.below hb) (by omega) fun v hv => hK v W hv (Below.refl _ _)⟩
          · intro ts W a ha hb hB hp; have h0 : IsNum W (ts 0) (x) := hp 0 (by kernel_rfl); have h1 : IsNum W (ts 1) (y) := hp 1 (by kernel_rfl); intro K hK; have e0 : a.eval (.tmp 84) = ts 0 := (ha 84).trans (by kernel_rfl); have e1 : a.eval (.tmp 85) = ts 1 := (ha 85).trans (by kernel_rfl); refine ⟨wp_callf rfl (xs := #[ts 0, ts 1]) (by simp only [List.map_toArray, List.map_cons, List.map_nil, e0, e1]) (fun w => by kernel_rfl) ?_⟩; refine (addN_any _ _ x y W h0 h1 6000 6000 KX.out KY.out (by omega) (HT4.out W (below_trans KMid.out.bel hb))).mono ?_; rintro e W9 ⟨r9, rfl, hr9, hb9⟩; exact ⟨_, rfl, hK _ _ hr9 hb9⟩
          · intro ts W a ha hb hB hp; intro K hK; exact ⟨wp_load_qe (k := 0) rfl ((ha 11).trans (by kernel_rfl)) (KMid.out.b11.below hb) (by omega) trivial fun v hv => hK v W hv (Below.refl _ _)⟩
          · intro ts W a ha hb hB hp; intro K hK; exact ⟨wp_load_qe (k := 0) rfl ((ha 12).trans (by kernel_rfl)) (KMid.out.b12.below hb) (by omega) trivial fun v hv => hK v W hv (Below.refl _ _)⟩
          · intro ts W a ha hb hB hp; have h3 := hp 3 (by kernel_rfl); have h4 := hp 4 (by kernel_rfl); intro K hK; have e3 : a.eval (.tmp 87) = ts 3 := (ha 87).trans (by kernel_rfl); have e4 : a.eval (.tmp 88) = ts 4 := (ha 88).trans (by kernel_rfl); refine ⟨wp_callf rfl (xs := #[ts 3, ts 4]) (by simp only [List.map_toArray, List.map_cons, List.map_nil, e3, e4]) (fun w => by kernel_rfl) ?_⟩; refine (rAdd_any _ _ x y W h3 h4 6000 6000 KX.out KY.out (by omega)).mono ?_; rintro e W9 ⟨r9, rfl, hr9, hb9⟩; exact ⟨_, rfl, hK _ _ hr9 hb9⟩
          intro ts W5 a ha hb5 hh K hK
          have hx := held_num (hh 2 (by simp)) rfl
          have hq := held_q (hh 5 (by simp)) rfl
          have ex : a.eval (.tmp 86) = ts 2 := (ha 86).trans (by kernel_rfl)
          have eq : a.eval (.tmp 89) = ts 5 := (ha 89).trans (by kernel_rfl)
          have HK := Lib.hid hK
          clear hK hh
          refine two_stores rfl rfl rfl rfl ((ha 9).trans (by kernel_rfl)) ((ha 11).trans (by kernel_rfl)) (by rw [ex]; exact hx) (by rw [eq]; exact hq) (KMid.out.below hb5) (fun W6 hm => HK.out _ ?_)
          clear ha ex eq hx hq
          dsimp only
          have KM6 := Lib.hid hm
          clear hm hb5 HK
          generalize ts = us at *
          go_wp2
          go_meet
          exact ⟨0, x.add y, rfl, rfl, (Sz.add KX.out KY.out).mono (by omega), KM6.out⟩
        · go_upto_region 15 with fail
          refine region_last2A [.val (kNum (x)), .val (kNum (y)), .val (kNum (x.sub y)), .val (kQ (x)), .val (kQ (y)), .val (kQ (x.sub y))]
            ?fl5 ?hfl5 (by kernel_rfl) (by kernel_rfl) (by kernel_rfl) (by kernel_rfl) (by kernel_rfl) ⟨Stab.b (stab_num _), Stab.b (stab_num _), Stab.b (stab_num _), Stab.b (stab_q _), Stab.b (stab_q _), Stab.b (stab_q _), trivial⟩ (by simp) (o1 := _) (o2 := _) rfl rfl (by kernel_rfl) (by kernel_rfl) ⟨?_, ?_, ?_, ?_, ?_, ?_, trivial⟩ ?_
          case hfl5 => intro ts; simp only [fillT, Nat.zero_add, Nat.reduceAdd, sA, sB, sC]; rfl
          · intro ts W a ha hb hB hp; intro K hK; exact ⟨wp_load_elem (k := 0) rfl ((ha 9).trans (by kernel_rfl)) (KMid.out.b9.below hb) (by omega) fun v hv => hK v W hv (Below.refl _ _)⟩
          · intro ts W a ha hb hB hp; intro K hK; exact ⟨wp_load_elem (k := 0) rfl ((ha 10).trans (by kernel_rfl)) (KMid.out.b10.below hb) (by omega) fun v hv => hK v W hv (Below.refl _ _)⟩
          · intro ts W a ha hb hB hp; have h0 : IsNum W (ts 0) (x) := hp 0 (by kernel_rfl); have h1 : IsNum W (ts 1) (y) := hp 1 (by kernel_rfl); intro K hK; have e0 : a.eval (.tmp 92) = ts 0 := (ha 92).trans (by kernel_rfl); have e1 : a.eval (.tmp 93) = ts 1 := (ha 93).trans (by kernel_rfl); refine ⟨wp_callf rfl (xs := #[ts 0, ts 1]) (by simp only [List.map_toArray, List.map_cons, List.map_nil, e0, e1]) (fun w => by kernel_rfl) ?_⟩; refine (subN_any _ _ x y W h0 h1 6000 6000 KX.out KY.out (by omega) (HT4.out W (below_trans KMid.out.bel hb))).mono ?_; rintro e W9 ⟨r9, rfl, hr9, hb9⟩; exact ⟨_, rfl, hK _ _ hr9 hb9⟩
          · intro ts W a ha hb hB hp; intro K hK; exact ⟨wp_load_qe (k := 0) rfl ((ha 11).trans (by kernel_rfl)) (KMid.out.b11.below hb) (by omega) trivial fun v hv => hK v W hv (Below.refl _ _)⟩
          · intro ts W a ha hb hB hp; intro K hK; exact ⟨wp_load_qe (k := 0) rfl ((ha 12).trans (by kernel_rfl)) (KMid.out.b12.below hb) (by omega) trivial fun v hv => hK v W hv (Below.refl _ _)⟩
          · intro ts W a ha hb hB hp; have h3 := hp 3 (by kernel_rfl); have h4 := hp 4 (by kernel_rfl); intro K hK; have e3 : a.eval (.tmp 95) = ts 3 := (ha 95).trans (by kernel_rfl); have e4 : a.eval (.tmp 96) = ts 4 := (ha 96).trans (by kernel_rfl); refine ⟨wp_callf rfl (xs := #[ts 3, ts 4]) (by simp only [List.map_toArray, List.map_cons, List.map_nil, e3, e4]) (fun w => by kernel_rfl) ?_⟩; refine (rSub_any _ _ x y W h3 h4 6000 6000 KX.out KY.out (by omega)).mono ?_; rintro e W9 ⟨r9, rfl, hr9, hb9⟩; exact ⟨_, rfl, hK _ _ hr9 hb9⟩
          intro ts W5 a ha hb5 hh K hK
          have hx := held_num (hh 2 (by simp)) rfl
          have hq := held_q (hh 5 (by simp)) rfl
          have ex : a.eval (.tmp 94) = ts 2 := (ha 94).trans (by kernel_rfl)
          have eq : a.eval (.tmp 97) = ts 5 := (ha 97).trans (by kernel_rfl)
          have HK := Lib.hid hK
          clear hK hh
          refine two_stores rfl rfl rfl rfl ((ha 9).trans (by kernel_rfl)) ((ha 11).trans (by kernel_rfl)) (by rw [ex]; exact hx) (by rw [eq]; exact hq) (KMid.out.below hb5) (fun W6 hm => HK.out _ ?_)
          clear ha ex eq hx hq
          dsimp only
          have KM6 := Lib.hid hm
          clear hm hb5 HK
          generalize ts = us at *
          go_wp2
          go_meet
          exact ⟨0, x.sub y, rfl, rfl, (Sz.sub KX.out KY.out).mono (by omega), KM6.out⟩
        · go_upto_region 17 with fail
          refine region_last2A [.val (kNum (x)), .val (kNum (y)), .val (kNum (x.mul y)), .val (kQ (x)), .val (kQ (y)), .val (kQ (x.mul y))]
            ?fl6 ?hfl6 (by kernel_rfl) (by kernel_rfl) (by kernel_rfl) (by kernel_rfl) (by kernel_rfl) ⟨Stab.b (stab_num _), Stab.b (stab_num _), Stab.b (stab_num _), Stab.b (stab_q _), Stab.b (stab_q _), Stab.b (stab_q _), trivial⟩ (by simp) (o1 := _) (o2 := _) rfl rfl (by kernel_rfl) (by kernel_rfl) ⟨?_, ?_, ?_, ?_, ?_, ?_, trivial⟩ ?_
          case hfl6 => intro ts; simp only [fillT, Nat.zero_add, Nat.reduceAdd, sA, sB, sC]; rfl
          · intro ts W a ha hb hB hp; intro K hK; exact ⟨wp_load_elem (k := 0) rfl ((ha 9).trans (by kernel_rfl)) (KMid.out.b9.below hb) (by omega) fun v hv => hK v W hv (Below.refl _ _)⟩
          · intro ts W a ha hb hB hp; intro K hK; exact ⟨wp_load_elem (k := 0) rfl ((ha 10).trans (by kernel_rfl)) (KMid.out.b10.below hb) (by omega) fun v hv => hK v W hv (Below.refl _ _)⟩
          · intro ts W a ha hb hB hp; have h0 : IsNum W (ts 0) (x) := hp 0 (by kernel_rfl); have h1 : IsNum W (ts 1) (y) := hp 1 (by kernel_rfl); intro K hK; have e0 : a.eval (.tmp 100) = ts 0 := (ha 100).trans (by kernel_rfl); have e1 : a.eval (.tmp 101) = ts 1 := (ha 101).trans (by kernel_rfl); refine ⟨wp_callf rfl (xs := #[ts 0, ts 1]) (by simp only [List.map_toArray, List.map_cons, List.map_nil, e0, e1]) (fun w => by kernel_rfl) ?_⟩; refine (mulN_any _ _ x y W h0 h1 6000 6000 KX.out KY.out (by omega) (HT4.out W (below_trans KMid.out.bel hb))).mono ?_; rintro e W9 ⟨r9, rfl, hr9, hb9⟩; exact ⟨_, rfl, hK _ _ hr9 hb9⟩
          · intro ts W a ha hb hB hp; intro K hK; exact ⟨wp_load_qe (k := 0) rfl ((ha 11).trans (by kernel_rfl)) (KMid.out.b11.below hb) (by omega) trivial fun v hv => hK v W hv (Below.refl _ _)⟩
          · intro ts W a ha hb hB hp; intro K hK; exact ⟨wp_load_qe (k := 0) rfl ((ha 12).trans (by kernel_rfl)) (KMid.out.b12.below hb) (by omega) trivial fun v hv => hK v W hv (Below.refl _ _)⟩
          · intro ts W a ha hb hB hp; have h3 := hp 3 (by kernel_rfl); have h4 := hp 4 (by kernel_rfl); intro K hK; have e3 : a.eval (.tmp 103) = ts 3 := (ha 103).trans (by kernel_rfl); have e4 : a.eval (.tmp 104) = ts 4 := (ha 104).trans (by kernel_rfl); refine ⟨wp_callf rfl (xs := #[ts 3, ts 4]) (by simp only [List.map_toArray, List.map_cons, List.map_nil, e3, e4]) (fun w => by kernel_rfl) ?_⟩; refine (rMul_any _ _ x y W h3 h4 6000 6000 KX.out KY.out (by omega)).mono ?_; rintro e W9 ⟨r9, rfl, hr9, hb9⟩; exact ⟨_, rfl, hK _ _ hr9 hb9⟩
          intro ts W5 a ha hb5 hh K hK
          have hx := held_num (hh 2 (by simp)) rfl
          have hq := held_q (hh 5 (by simp)) rfl
          have ex : a.eval (.tmp 102) = ts 2 := (ha 102).trans (by kernel_rfl)
          have eq : a.eval (.tmp 105) = ts 5 := (ha 105).trans (by kernel_rfl)
          have HK := Lib.hid hK
          clear hK hh
          refine two_stores rfl rfl rfl rfl ((ha 9).trans (by kernel_rfl)) ((ha 11).trans (by kernel_rfl)) (by rw [ex]; exact hx) (by rw [eq]; exact hq) (KMid.out.below hb5) (fun W6 hm => HK.out _ ?_)
          clear ha ex eq hx hq
          dsimp only
          have KM6 := Lib.hid hm
          clear hm hb5 HK
          generalize ts = us at *
          go_wp2
          go_meet
          exact ⟨0, x.mul y, rfl, rfl, (Sz.mul KX.out KY.out).mono (by omega), KM6.out⟩
        · obtain ⟨kd, HD, HE⟩ : ∃ kd : Int, Hid (∀ W v u, Below wr.heap.size wr W → IsNum W v x → IsNum W u y → Calls Tryz.prog 21 #[v, u] W (RetNumE W (x.div y) kd)) ∧ Hid (∀ W v u, IsQ W v x → IsQ W u y → Calls Tryz.prog 22 #[v, u] W (RetQE W (x.div y) kd)) := by
            by_cases hy : y = .zero
            · refine ⟨3, Lib.hid fun W v u hb h h' => ?_, Lib.hid fun W v u h h' => ?_⟩
              · have := divN_any v u x y W h h' 6000 6000 KX.out KY.out (by omega) (HT4.out W hb)
                rw [if_pos hy] at this
                exact this
              · have := rDiv_zero v u x y W h h' hy
                rw [hy, Cx.div_zero]
                exact this
            · refine ⟨0, Lib.hid fun W v u hb h h' => ?_, Lib.hid fun W v u h h' => ?_⟩
              · have := divN_any v u x y W h h' 6000 6000 KX.out KY.out (by omega) (HT4.out W hb)
                rw [if_neg hy] at this
                exact this
              · exact rDiv_any v u x y W h h' 6000 6000 KX.out KY.out (by omega) hy
          go_upto_region 19 with fail
          refine wp_region ?_
          show wpOps _ _ _ [0, 1, 2, 3, 4, 5, 6, 7] _ _
          refine ops_step rfl rfl fun K hK => ⟨wp_load_elem (k := 0) rfl rfl KMid.out.b9 (by omega) fun v0 hv0 => hK _ _ ?_⟩
          clear hK
          try simp only [Act.put, sA, sB, sC]
          refine ops_step rfl rfl fun K hK => ⟨wp_load_elem (k := 0) rfl rfl KMid.out.b10 (by omega) fun v1 hv1 => hK _ _ ?_⟩
          clear hK
          try simp only [Act.put, sA, sB, sC]
          refine ops_step rfl rfl fun K hK => ⟨?_⟩
          have HK := Lib.hid hK
          clear hK
          go_simp
          refine (HD.out _ _ _ KMid.out.bel hv0 hv1).mono ?_
          rintro e W5 ⟨v2, rfl, hv2, hb5⟩
          refine HK.out _ _ ?_
          clear HK
          try simp only [Act.put, sA, sB, sC]
          refine ops_step rfl rfl fun K hK => ⟨?_⟩
          have HK := Lib.hid hK
          clear hK
          go_simp
          refine HK.out _ _ ?_
          clear HK
          try simp only [Act.put, sA, sB, sC]
          refine ops_step rfl rfl fun K hK => ⟨?_⟩
          have HK := Lib.hid hK
          clear hK
          go_simp
          refine HK.out _ _ ?_
          clear HK
          try simp only [Act.put, sA, sB, sC]
          refine ops_step rfl rfl fun K hK => ⟨?_⟩
          have HK := Lib.hid hK
          clear hK
          go_simp
          refine HK.out _ _ ?_
          clear HK
          try simp only [Act.put, sA, sB, sC]
          refine ops_step rfl rfl fun K hK => ⟨store_x rfl rfl hv2 (KMid.out.below hb5) fun W6 xa ma => hK _ _ ?_⟩
          clear hK
          try simp only [Act.put, sA, sB, sC]
          refine ops_step rfl rfl fun K hK => ⟨?_⟩
          have HK := Lib.hid hK
          clear hK
          go_simp
          refine HK.out _ _ ?_
          clear HK
          try simp only [Act.put, sA, sB, sC]
          have KM6 := Lib.hid ma
          clear ma xa hv0 hv1 hv2 hb5
          simp only [wpOps]
          go_upto_region 20 with fail
          refine wp_region ?_
          show wpOps _ _ _ [0, 1, 2, 3, 4, 5, 6, 7] _ _
          refine ops_step rfl rfl fun K hK => ⟨wp_load_qe (k := 0) rfl rfl KM6.out.b11 (by omega) trivial fun v0 hv0 => hK _ _ ?_⟩
          clear hK
          try simp only [Act.put, sA, sB, sC]
          refine ops_step rfl rfl fun K hK => ⟨wp_load_qe (k := 0) rfl rfl KM6.out.b12 (by omega) trivial fun v1 hv1 => hK _ _ ?_⟩
          clear hK
          try simp only [Act.put, sA, sB, sC]
          refine ops_step rfl rfl fun K hK => ⟨?_⟩
          have HK := Lib.hid hK
          clear hK
          go_simp
          refine (HE.out _ _ _ hv0 hv1).mono ?_
          rintro e W5 ⟨v2, rfl, hv2, hb5⟩
          refine HK.out _ _ ?_
          clear HK
          try simp only [Act.put, sA, sB, sC]
          refine ops_step rfl rfl fun K hK => ⟨?_⟩
          have HK := Lib.hid hK
          clear hK
          go_simp
          refine HK.out _ _ ?_
          clear HK
          try simp only [Act.put, sA, sB, sC]
          refine ops_step rfl rfl fun K hK => ⟨?_⟩
          have HK := Lib.hid hK
          clear hK
          go_simp
          refine HK.out _ _ ?_
          clear HK
          try simp only [Act.put, sA, sB, sC]
          refine ops_step rfl rfl fun K hK => ⟨?_⟩
          have HK := Lib.hid hK
          clear hK
          go_simp
          refine HK.out _ _ ?_
          clear HK
          try simp only [Act.put, sA, sB, sC]
          refine ops_step rfl rfl fun K hK => ⟨store_p rfl rfl hv2 (KM6.out.below hb5) fun W6 xa ma => hK _ _ ?_⟩
          clear hK
          try simp only [Act.put, sA, sB, sC]
          refine ops_step rfl rfl fun K hK => ⟨?_⟩
          have HK := Lib.hid hK
          clear hK
          go_simp
          refine HK.out _ _ ?_
          clear HK
          try simp only [Act.put, sA, sB, sC]
          have KM8 := Lib.hid ma
          clear ma xa hv0 hv1 hv2 hb5
          simp only [wpOps]
          go_wp2
          go_meet
          exact ⟨kd, x.div y, rfl, rfl, (Sz.div KX.out KY.out).mono (by omega), KM8.out⟩
        · go_upto_region 22 with fail
          refine region_last2A [.val (kNum (x)), .val (kNum (x.neg)), .val (kQ (x)), .val (kQ (x.neg))]
            ?fl7 ?hfl7 (by kernel_rfl) (by kernel_rfl) (by kernel_rfl) (by kernel_rfl) (by kernel_rfl) ⟨Stab.b (stab_num _), Stab.b (stab_num _), Stab.b (stab_q _), Stab.b (stab_q _), trivial⟩ (by simp) (o1 := _) (o2 := _) rfl rfl (by kernel_rfl) (by kernel_rfl) ⟨?_, ?_, ?_, ?_, trivial⟩ ?_
          case hfl7 => intro ts; simp only [fillT, Nat.zero_add, Nat.reduceAdd, sA, sB, sC]; rfl
          · intro ts W a ha hb hB hp; intro K hK; exact ⟨wp_load_elem (k := 0) rfl ((ha 9).trans (by kernel_rfl)) (KMid.out.b9.below hb) (by omega) fun v hv => hK v W hv (Below.refl _ _)⟩
          · intro ts W a ha hb hB hp; have h0 : IsNum W (ts 0) (x) := hp 0 (by kernel_rfl); intro K hK; have e0 : a.eval (.tmp 122) = ts 0 := (ha 122).trans (by kernel_rfl); refine ⟨wp_callf rfl (xs := #[ts 0]) (by simp only [List.map_toArray, List.map_cons, List.map_nil, e0]) (fun w => by kernel_rfl) ?_⟩; refine (negN_any _ x W h0).mono ?_; rintro e W9 ⟨r9, rfl, hr9, hb9⟩; exact ⟨_, rfl, hK _ _ hr9 hb9⟩
          · intro ts W a ha hb hB hp; intro K hK; exact ⟨wp_load_qe (k := 0) rfl ((ha 11).trans (by kernel_rfl)) (KMid.out.b11.below hb) (by omega) trivial fun v hv => hK v W hv (Below.refl _ _)⟩
          · intro ts W a ha hb hB hp; have h2 := hp 2 (by kernel_rfl); intro K hK; have e2 : a.eval (.tmp 124) = ts 2 := (ha 124).trans (by kernel_rfl); refine ⟨wp_callf rfl (xs := #[ts 2]) (by simp only [List.map_toArray, List.map_cons, List.map_nil, e2]) (fun w => by kernel_rfl) ?_⟩; refine (rNeg_any _ x W h2).mono ?_; rintro e W9 ⟨r9, rfl, hr9, hb9⟩; exact ⟨_, rfl, hK _ _ hr9 hb9⟩
          intro ts W5 a ha hb5 hh K hK
          have hx := held_num (hh 1 (by simp)) rfl
          have hq := held_q (hh 3 (by simp)) rfl
          have ex : a.eval (.tmp 123) = ts 1 := (ha 123).trans (by kernel_rfl)
          have eq : a.eval (.tmp 125) = ts 3 := (ha 125).trans (by kernel_rfl)
          have HK := Lib.hid hK
          clear hK hh
          refine two_stores rfl rfl rfl rfl ((ha 9).trans (by kernel_rfl)) ((ha 11).trans (by kernel_rfl)) (by rw [ex]; exact hx) (by rw [eq]; exact hq) (KMid.out.below hb5) (fun W6 hm => HK.out _ ?_)
          clear ha ex eq hx hq
          dsimp only
          have KM6 := Lib.hid hm
          clear hm hb5 HK
          generalize ts = us at *
          go_wp2
          go_meet
          exact ⟨0, x.neg, rfl, rfl, (Sz.neg KX.out).mono (by omega), KM6.out⟩
        · go_upto_region 24 with fail
          refine region_last2A [.val (kNum (x)), .val (kNum (x.conj)), .val (kQ (x)), .val (kQ (x.conj))]
            ?fl8 ?hfl8 (by kernel_rfl) (by kernel_rfl) (by kernel_rfl) (by kernel_rfl) (by kernel_rfl) ⟨Stab.b (stab_num _), Stab.b (stab_num _), Stab.b (stab_q _), Stab.b (stab_q _), trivial⟩ (by simp) (o1 := _) (o2 := _) rfl rfl (by kernel_rfl) (by kernel_rfl) ⟨?_, ?_, ?_, ?_, trivial⟩ ?_
          case hfl8 => intro ts; simp only [fillT, Nat.zero_add, Nat.reduceAdd, sA, sB, sC]; rfl
          · intro ts W a ha hb hB hp; intro K hK; exact ⟨wp_load_elem (k := 0) rfl ((ha 9).trans (by kernel_rfl)) (KMid.out.b9.below hb) (by omega) fun v hv => hK v W hv (Below.refl _ _)⟩
          · intro ts W a ha hb hB hp; have h0 : IsNum W (ts 0) (x) := hp 0 (by kernel_rfl); intro K hK; have e0 : a.eval (.tmp 128) = ts 0 := (ha 128).trans (by kernel_rfl); refine ⟨wp_callf rfl (xs := #[ts 0]) (by simp only [List.map_toArray, List.map_cons, List.map_nil, e0]) (fun w => by kernel_rfl) ?_⟩; refine (conjN_any _ x W h0).mono ?_; rintro e W9 ⟨r9, rfl, hr9, hb9⟩; exact ⟨_, rfl, hK _ _ hr9 hb9⟩
          · intro ts W a ha hb hB hp; intro K hK; exact ⟨wp_load_qe (k := 0) rfl ((ha 11).trans (by kernel_rfl)) (KMid.out.b11.below hb) (by omega) trivial fun v hv => hK v W hv (Below.refl _ _)⟩
          · intro ts W a ha hb hB hp; have h2 := hp 2 (by kernel_rfl); intro K hK; have e2 : a.eval (.tmp 130) = ts 2 := (ha 130).trans (by kernel_rfl); refine ⟨wp_callf rfl (xs := #[ts 2]) (by simp only [List.map_toArray, List.map_cons, List.map_nil, e2]) (fun w => by kernel_rfl) ?_⟩; refine (rConj_any _ x W h2).mono ?_; rintro e W9 ⟨r9, rfl, hr9, hb9⟩; exact ⟨_, rfl, hK _ _ hr9 hb9⟩
          intro ts W5 a ha hb5 hh K hK
          have hx := held_num (hh 1 (by simp)) rfl
          have hq := held_q (hh 3 (by simp)) rfl
          have ex : a.eval (.tmp 129) = ts 1 := (ha 129).trans (by kernel_rfl)
          have eq : a.eval (.tmp 131) = ts 3 := (ha 131).trans (by kernel_rfl)
          have HK := Lib.hid hK
          clear hK hh
          refine two_stores rfl rfl rfl rfl ((ha 9).trans (by kernel_rfl)) ((ha 11).trans (by kernel_rfl)) (by rw [ex]; exact hx) (by rw [eq]; exact hq) (KMid.out.below hb5) (fun W6 hm => HK.out _ ?_)
          clear ha ex eq hx hq
          dsimp only
          have KM6 := Lib.hid hm
          clear hm hb5 HK
          generalize ts = us at *
          go_wp2
          go_meet
          exact ⟨0, x.conj, rfl, rfl, (Sz.conj KX.out).mono (by omega), KM6.out⟩
        · go_upto_region 26 with fail
          refine region_last2A [.val (kNum (x)), .val (kNum (x.norm)), .val (kQ (x)), .val (kQ (x.norm))]
            ?fl9 ?hfl9 (by kernel_rfl) (by kernel_rfl) (by kernel_rfl) (by kernel_rfl) (by kernel_rfl) ⟨Stab.b (stab_num _), Stab.b (stab_num _), Stab.b (stab_q _), Stab.b (stab_q _), trivial⟩ (by simp) (o1 := _) (o2 := _) rfl rfl (by kernel_rfl) (by kernel_rfl) ⟨?_, ?_, ?_, ?_, trivial⟩ ?_
          case hfl9 => intro ts; simp only [fillT, Nat.zero_add, Nat.reduceAdd, sA, sB, sC]; rfl
          · intro ts W a ha hb hB hp; intro K hK; exact ⟨wp_load_elem (k := 0) rfl ((ha 9).trans (by kernel_rfl)) (KMid.out.b9.below hb) (by omega) fun v hv => hK v W hv (Below.refl _ _)⟩
          · intro ts W a ha hb hB hp; have h0 : IsNum W (ts 0) (x) := hp 0 (by kernel_rfl); intro K hK; have e0 : a.eval (.tmp 134) = ts 0 := (ha 134).trans (by kernel_rfl); refine ⟨wp_callf rfl (xs := #[ts 0]) (by simp only [List.map_toArray, List.map_cons, List.map_nil, e0]) (fun w => by kernel_rfl) ?_⟩; refine (normN_any _ x W h0 6000 KX.out (by omega) (HT4.out W (below_trans KMid.out.bel hb))).mono ?_; rintro e W9 ⟨r9, rfl, hr9, hb9⟩; exact ⟨_, rfl, hK _ _ hr9 hb9⟩
          · intro ts W a ha hb hB hp; intro K hK; exact ⟨wp_load_qe (k := 0) rfl ((ha 11).trans (by kernel_rfl)) (KMid.out.b11.below hb) (by omega) trivial fun v hv => hK v W hv (Below.refl _ _)⟩
          · intro ts W a ha hb hB hp; have h2 := hp 2 (by kernel_rfl); intro K hK; have e2 : a.eval (.tmp 136) = ts 2 := (ha 136).trans (by kernel_rfl); refine ⟨wp_callf rfl (xs := #[ts 2]) (by simp only [List.map_toArray, List.map_cons, List.map_nil, e2]) (fun w => by kernel_rfl) ?_⟩; refine (rNorm_any _ x W h2 6000 KX.out (by omega)).mono ?_; rintro e W9 ⟨r9, rfl, hr9, hb9⟩; exact ⟨_, rfl, hK _ _ hr9 hb9⟩
          intro ts W5 a ha hb5 hh K hK
          have hx := held_num (hh 1 (by simp)) rfl
          have hq := held_q (hh 3 (by simp)) rfl
          have ex : a.eval (.tmp 135) = ts 1 := (ha 135).trans (by kernel_rfl)
          have eq : a.eval (.tmp 137) = ts 3 := (ha 137).trans (by kernel_rfl)
          have HK := Lib.hid hK
          clear hK hh
          refine two_stores rfl rfl rfl rfl ((ha 9).trans (by kernel_rfl)) ((ha 11).trans (by kernel_rfl)) (by rw [ex]; exact hx) (by rw [eq]; exact hq) (KMid.out.below hb5) (fun W6 hm => HK.out _ ?_)
          clear ha ex eq hx hq
          dsimp only
          have KM6 := Lib.hid hm
          clear hm hb5 HK
          generalize ts = us at *
          go_wp2
          go_meet
          exact ⟨0, x.norm, rfl, rfl, (Sz.norm KX.out).mono (by omega), KM6.out⟩
        · go_upto_region 28 with fail
          refine region_last2A [.val (kNum (x)), .val (kNum (x.real)), .val (kNum (y)), .val (kNum (y.imag)), .val (kNum (x.real.add y.imag)), .val (kQ (x)), .val (kQ (x.real)), .val (kQ (y)), .val (kQ (y.imag)), .val (kQ (x.real.add y.imag))]
            ?fl10 ?hfl10 (by kernel_rfl) (by kernel_rfl) (by kernel_rfl) (by kernel_rfl) (by kernel_rfl) ⟨Stab.b (stab_num _), Stab.b (stab_num _), Stab.b (stab_num _), Stab.b (stab_num _), Stab.b (stab_num _), Stab.b (stab_q _), Stab.b (stab_q _), Stab.b (stab_q _), Stab.b (stab_q _), Stab.b (stab_q _), trivial⟩ (by simp) (o1 := _) (o2 := _) rfl rfl (by kernel_rfl) (by kernel_rfl) ⟨?_, ?_, ?_, ?_, ?_, ?_, ?_, ?_, ?_, ?_, trivial⟩ ?_
          case hfl10 => intro ts; simp only [fillT, Nat.zero_add, Nat.reduceAdd, sA, sB, sC]; rfl
          · intro ts W a ha hb hB hp; intro K hK; exact ⟨wp_load_elem (k := 0) rfl ((ha 9).trans (by kernel_rfl)) (KMid.out.b9.below hb) (by omega) fun v hv => hK v W hv (Below.refl _ _)⟩
          · intro ts W a ha hb hB hp; have h0 : IsNum W (ts 0) (x) := hp 0 (by kernel_rfl); intro K hK; have e0 : a.eval (.tmp 140) = ts 0 := (ha 140).trans (by kernel_rfl); refine ⟨wp_callf rfl (xs := #[ts 0]) (by simp only [List.map_toArray, List.map_cons, List.map_nil, e0]) (fun w => by kernel_rfl) ?_⟩; refine (reN_any _ x W h0 (HT4.out W (below_trans KMid.out.bel hb)) 6000 KX.out (by omega)).mono ?_; rintro e W9 ⟨r9, rfl, hr9, hb9⟩; exact ⟨_, rfl, hK _ _ hr9 hb9⟩
          · intro ts W a ha hb hB hp; intro K hK; exact ⟨wp_load_elem (k := 0) rfl ((ha 10).trans (by kernel_rfl)) (KMid.out.b10.below hb) (by omega) fun v hv => hK v W hv (Below.refl _ _)⟩
          · intro ts W a ha hb hB hp; have h2 : IsNum W (ts 2) (y) := hp 2 (by kernel_rfl); intro K hK; have e2 : a.eval (.tmp 142) = ts 2 := (ha 142).trans (by kernel_rfl); refine ⟨wp_callf rfl (xs := #[ts 2]) (by simp only [List.map_toArray, List.map_cons, List.map_nil, e2]) (fun w => by kernel_rfl) ?_⟩; refine (imN_any _ y W h2 (HT4.out W (below_trans KMid.out.bel hb)) 6000 KY.out (by omega)).mono ?_; rintro e W9 ⟨r9, rfl, hr9, hb9⟩; exact ⟨_, rfl, hK _ _ hr9 hb9⟩
          · intro ts W a ha hb hB hp; have h1 : IsNum W (ts 1) (x.real) := hp 1 (by kernel_rfl); have h3 : IsNum W (ts 3) (y.imag) := hp 3 (by kernel_rfl); intro K hK; have e1 : a.eval (.tmp 141) = ts 1 := (ha 141).trans (by kernel_rfl); have e3 : a.eval (.tmp 143) = ts 3 := (ha 143).trans (by kernel_rfl); refine ⟨wp_callf rfl (xs := #[ts 1, ts 3]) (by simp only [List.map_toArray, List.map_cons, List.map_nil, e1, e3]) (fun w => by kernel_rfl) ?_⟩; refine (addN_any _ _ x.real y.imag W h1 h3 6000 6000 (Sz.real KX.out) (Sz.imag KY.out) (by omega) (HT4.out W (below_trans KMid.out.bel hb))).mono ?_; rintro e W9 ⟨r9, rfl, hr9, hb9⟩; exact ⟨_, rfl, hK _ _ hr9 hb9⟩
          · intro ts W a ha hb hB hp; intro K hK; exact ⟨wp_load_qe (k := 0) rfl ((ha 11).trans (by kernel_rfl)) (KMid.out.b11.below hb) (by omega) trivial fun v hv => hK v W hv (Below.refl _ _)⟩
          · intro ts W a ha hb hB hp; have h5 := hp 5 (by kernel_rfl); intro K hK; have e5 : a.eval (.tmp 145) = ts 5 := (ha 145).trans (by kernel_rfl); refine ⟨wp_callf rfl (xs := #[ts 5]) (by simp only [List.map_toArray, List.map_cons, List.map_nil, e5]) (fun w => by kernel_rfl) ?_⟩; refine (rRe_any _ x W h5 6000 KX.out (by omega)).mono ?_; rintro e W9 ⟨r9, rfl, hr9, hb9⟩; exact ⟨_, rfl, hK _ _ hr9 hb9⟩
          · intro ts W a ha hb hB hp; intro K hK; exact ⟨wp_load_qe (k := 0) rfl ((ha 12).trans (by kernel_rfl)) (KMid.out.b12.below hb) (by omega) trivial fun v hv => hK v W hv (Below.refl _ _)⟩
          · intro ts W a ha hb hB hp; have h7 := hp 7 (by kernel_rfl); intro K hK; have e7 : a.eval (.tmp 147) = ts 7 := (ha 147).trans (by kernel_rfl); refine ⟨wp_callf rfl (xs := #[ts 7]) (by simp only [List.map_toArray, List.map_cons, List.map_nil, e7]) (fun w => by kernel_rfl) ?_⟩; refine (rIm_any _ y W h7 6000 KY.out (by omega)).mono ?_; rintro e W9 ⟨r9, rfl, hr9, hb9⟩; exact ⟨_, rfl, hK _ _ hr9 hb9⟩
          · intro ts W a ha hb hB hp; have h6 := hp 6 (by kernel_rfl); have h8 := hp 8 (by kernel_rfl); intro K hK; have e6 : a.eval (.tmp 146) = ts 6 := (ha 146).trans (by kernel_rfl); have e8 : a.eval (.tmp 148) = ts 8 := (ha 148).trans (by kernel_rfl); refine ⟨wp_callf rfl (xs := #[ts 6, ts 8]) (by simp only [List.map_toArray, List.map_cons, List.map_nil, e6, e8]) (fun w => by kernel_rfl) ?_⟩; refine (rAdd_any _ _ x.real y.imag W h6 h8 6000 6000 (Sz.real KX.out) (Sz.imag KY.out) (by omega)).mono ?_; rintro e W9 ⟨r9, rfl, hr9, hb9⟩; exact ⟨_, rfl, hK _ _ hr9 hb9⟩
          intro ts W5 a ha hb5 hh K hK
          have hx := held_num (hh 4 (by simp)) rfl
          have hq := held_q (hh 9 (by simp)) rfl
          have ex : a.eval (.tmp 144) = ts 4 := (ha 144).trans (by kernel_rfl)
          have eq : a.eval (.tmp 149) = ts 9 := (ha 149).trans (by kernel_rfl)
          have HK := Lib.hid hK
          clear hK hh
          refine two_stores rfl rfl rfl rfl ((ha 9).trans (by kernel_rfl)) ((ha 11).trans (by kernel_rfl)) (by rw [ex]; exact hx) (by rw [eq]; exact hq) (KMid.out.below hb5) (fun W6 hm => HK.out _ ?_)
          clear ha ex eq hx hq
          dsimp only
          have KM6 := Lib.hid hm
          clear hm hb5 HK
          generalize ts = us at *
          go_wp2
          go_meet
          exact ⟨0, x.real.add y.imag, rfl, rfl, (Sz.add (Sz.real KX.out) (Sz.imag KY.out)).mono (by omega), KM6.out⟩
        · go_upto_region 11 with fail
          have ne911 := apart_nq KMid.out.b9 KMid.out.b11
          have ne912 := apart_nq KMid.out.b9 KMid.out.b12
          have ne1011 := apart_nq KMid.out.b10 KMid.out.b11
          refine region_freeL (fun W => wr.heap.size ≤ W.heap.size ∧ Below wr.heap.size wr W ∧ NBlk W g10 1 (fun _ => y) ∧ QBlk W g12 1 (fun _ => True) (fun _ => y)) (p11 g9 g11 x y) (m11 g9 g11 x) (r11 g9 g11) ?fl11 ?hfl11
            (by kernel_rfl) (by kernel_rfl) (by kernel_rfl) (by kernel_rfl) (by kernel_rfl) ?_ (fun i j v W W' hij _ _ hr h => p11_keeps ne911 j v hij hr h) (fun i j W W' hij hp _ hr h => m11_keeps (by kernel_rfl) ne911 j hij hp hr h) ?_ ⟨?_, ?_, ?_, ?_, ?_, ?_, trivial⟩ ?_
          case hfl11 => intro ts; simp only [fillT, Nat.zero_add, Nat.reduceAdd, sA, sB, sC]; rfl
          · intro W hW
            have hbW : Below W4.heap.size W4 W := by
              rcases hW with rfl | rfl
              · exact Below.refl _ _
              · exact (Below.refl _ _).drew
            have M := KMid.out.below hbW
            exact ⟨⟨by have := M.b9.lt; have := M.l9; omega, M.bel, M.b10, M.b12⟩, m11_start M.b9 M.b11⟩
          · rintro i W W' hr ⟨hs, hb, h10, h12⟩
            exact ⟨Nat.le_trans hs hr.ext.size, hr.below hb KMid.out.l9 KMid.out.l11 hs, h10.ext hr.ext (hr.oth (Ne.symm KMid.out.n9) ne1011 h10.lt), h12.ext hr.ext (hr.oth (Ne.symm ne912) (Ne.symm KMid.out.n11) h12.lt)⟩
          · intro ts W hI hm hp K hK; dsimp only at hK ⊢; exact ⟨wp_load_elem (k := 0) rfl rfl (show NBlk W g9 1 (fun _ => x) from hm) (by omega) fun v hv => hK v W hv (r11_of (by omega) (by omega) (Below.refl _ _))⟩
          · intro ts W hI hm hp K hK; dsimp only at hK ⊢; exact ⟨wp_load_elem (k := 0) rfl rfl hI.2.2.1 (by omega) fun v hv => hK v W hv (r11_of (by omega) (by omega) (Below.refl _ _))⟩
          · intro ts W hI hm hp K hK; have h0 : IsNum W (ts 0) x := hp 0 (by kernel_rfl); have h1 : IsNum W (ts 1) y := hp 1 (by kernel_rfl); dsimp only at hK ⊢; have HK := Lib.hid hK; clear hK hp hI hm; refine ⟨?_⟩; go_simp; refine (ofN_any _ _ x y W h0 h1).mono ?_; rintro e W9 ⟨r9, rfl, hr9, hb9⟩; exact HK.out _ _ hr9 (r11_of (by omega) (by omega) hb9)
          · intro ts W hI hm hp K hK; dsimp only at hK ⊢; exact ⟨wp_load_qe (k := 0) rfl rfl hI.2.2.2 (by omega) trivial fun v hv => hK v W hv (r11_of (by omega) (by omega) (Below.refl _ _))⟩
          · intro ts W hI hm hp K hK; have h2 : IsNum W (ts 2) y := hp 2 (by kernel_rfl); dsimp only at hK ⊢; exact ⟨wp_store_elem (k := 0) rfl rfl rfl (show NBlk W g9 1 (fun _ => x) from hm) (by omega) h2 fun wa ba xa ra => hK _ _ (ra.congr (upf_one _ _)) ⟨ba, xa⟩⟩
          · intro ts W hI hm hp K hK; have h3 : IsQ W (ts 3) y := hp 3 (by kernel_rfl); dsimp only at hK ⊢; exact ⟨wp_store_qe (k := 0) rfl rfl rfl (show QBlk W g11 1 (fun _ => True) (fun _ => x) from hm) (by omega) h3 fun wa ba xa ra => hK _ _ (ra.to fun j hj _ => ⟨.inl trivial, upf_one _ _ j hj⟩) ⟨ba, xa⟩⟩
          · rintro ts W6 ⟨hs, hb, h10, h12⟩ hp
            have e4 : NBlk W6 g9 1 (fun _ => y) := hp 4 (by simp)
            have e5 : QBlk W6 g11 1 (fun _ => True) (fun _ => y) := hp 5 (by simp)
            have KM6 := Lib.hid (show Mid wr.heap.size wr g9 g10 g11 g12 y y y W6 from ⟨KMid.out.l9, KMid.out.l11, KMid.out.n9, KMid.out.n11, e4, h10, e5, h12, hb⟩)
            clear hs hb h10 h12 hp e4 e5
            dsimp only
            generalize ts = us at *
            go_wp2
            go_meet
            exact ⟨0, y, rfl, rfl, KY.out.mono (by omega), KM6.out⟩
      case rest =>
        obtain ⟨k, z, rfl, rfl, hz, hM⟩ := hcut
        have KM := Lib.hid hM
        have KZ := Lib.hid hz
        obtain ⟨c0, hc0⟩ : ∃ c, c = decide (z = Cx.zero) := ⟨_, rfl⟩
        obtain ⟨c1, hc1⟩ : ∃ c, c = decide (z = y) := ⟨_, rfl⟩
        obtain ⟨c2, hc2⟩ : ∃ c, c = cmpC z y := ⟨_, rfl⟩
        obtain ⟨c3, hc3⟩ : ∃ c, c = sgnR z.im := ⟨_, rfl⟩
        obtain ⟨c4, hc4⟩ : ∃ c, c = decide (z.im = 0) := ⟨_, rfl⟩
        have KY3 := Lib.hid (KY.out.mono (show 6000 ≤ 30000 by omega))
        have HC0 := Lib.hid (fun W v (h : IsNum W v z) => show Calls Tryz.prog 34 #[v] W fun e w' => e = .returned (.bool (!c0)) ∧ Below W.heap.size W w' from by rw [hc0]; exact clear_any v z W h)
        have HD0 := Lib.hid (fun W v (h : IsQ W v z) => show Calls Tryz.prog 35 #[v] W fun e w' => e = .returned (.bool c0) ∧ Below W.heap.size W w' from by rw [hc0]; exact rZero_any v z W h)
        have HC1 := Lib.hid (fun W v u (h : IsNum W v z) (h' : IsNum W u y) => show Calls Tryz.prog 36 #[v, u] W fun e w' => e = .returned (.bool c1) ∧ Below W.heap.size W w' from by rw [hc1]; exact sameN_any v u z y W h h' 30000 KZ.out KY3.out (by omega))
        have HD1 := Lib.hid (fun W v u (h : IsQ W v z) (h' : IsQ W u y) => show Calls Tryz.prog 37 #[v, u] W fun e w' => e = .returned (.bool c1) ∧ Below W.heap.size W w' from by rw [hc1]; exact rSame_any v u z y W h h' 30000 KZ.out KY3.out (by omega))
        have HC2 := Lib.hid (fun W v u (h : IsNum W v z) (h' : IsNum W u y) => show Calls Tryz.prog 38 #[v, u] W fun e w' => e = .returned (.int .i64 c2) ∧ Below W.heap.size W w' from by rw [hc2]; exact cmpN_any' v u z y W h h' 30000 30000 KZ.out KY3.out (by omega))
        have HD2 := Lib.hid (fun W v u (h : IsQ W v z) (h' : IsQ W u y) => show Calls Tryz.prog 39 #[v, u] W fun e w' => e = .returned (.int .i64 c2) ∧ Below W.heap.size W w' from by rw [hc2]; exact rCmp_any v u z y W h h' 30000 30000 KZ.out KY3.out (by omega))
        have HC3 := Lib.hid (fun W v (h : IsNum W v z) => show Calls Tryz.prog 40 #[v] W fun e w' => e = .returned (.int .i64 c3) ∧ Below W.heap.size W w' from by rw [hc3]; exact sideN_any v z W h)
        have HD3 := Lib.hid (fun W v (h : IsQ W v z) => show Calls Tryz.prog 41 #[v] W fun e w' => e = .returned (.int .i64 c3) ∧ Below W.heap.size W w' from by rw [hc3]; exact rSide_any v z W h 30000 KZ.out (by omega))
        have HC4 := Lib.hid (fun W v (h : IsNum W v z) => show Calls Tryz.prog 42 #[v] W fun e w' => e = .returned (.bool c4) ∧ Below W.heap.size W w' from by rw [hc4]; exact real_any v z W h)
        have K4 := Lib.hid (show decide (c3 = 0) = c4 from by rw [hc3, hc4]; exact decide_eq_decide.2 sgnR_nil)
        clear hM hz hc0 hc1 hc2 hc3 hc4 KMid KX c8 rk9 wk9 hk9
        go_upto_region 29 with fail
        refine region_litA (.val (kIs (.int .i64 k)) :: .val (kIs (.int .i64 k)) :: .val (kIs (.bool false)) :: .val (kIs (.bool false)) :: .val (kNum (z)) :: .val (kQ (z)) :: .val (kIs (.bool true)) :: .val (kIs (.bool false)) :: .val (kIs (.bool false)) :: .val (kIs (.bool false)) :: .val (kNum (z)) :: .val (kIs (.bool (!c0))) :: .val (kQ (z)) :: .val (kIs (.bool c0)) :: .val (kIs (.bool false)) :: .val (kIs (.bool false)) :: .val (kIs (.bool false)) :: .val (kNum (z)) :: .val (kNum (y)) :: .val (kIs (.bool c1)) :: .val (kQ (z)) :: .val (kQ (y)) :: .val (kIs (.bool c1)) :: .val (kIs (.bool false)) :: .val (kIs (.bool false)) :: .val (kIs (.bool false)) :: .val (kNum (z)) :: .val (kNum (y)) :: .val (kIs (.int .i64 c2)) :: .val (kQ (z)) :: .val (kQ (y)) :: .val (kIs (.int .i64 c2)) :: .val (kIs (.bool false)) :: .val (kIs (.bool false)) :: .val (kIs (.bool false)) :: .val (kNum (z)) :: .val (kIs (.int .i64 c3)) :: .val (kQ (z)) :: .val (kIs (.int .i64 c3)) :: .val (kIs (.bool false)) :: .val (kIs (.bool false)) :: .val (kIs (.bool false)) :: .val (kNum (z)) :: .val (kIs (.bool c4)) :: .val (kQ (z)) :: .val (kIs (.int .i64 c3)) :: .val (kIs (.bool c4)) :: .val (kIs (.bool false)) :: .val (kIs (.bool false)) :: [])
          ?fl12 ?hfl12 (by kernel_rfl) (by kernel_rfl) (by kernel_rfl) (by kernel_rfl) (by kernel_rfl) ⟨Stab.b (stab_is _), Stab.b (stab_is _), Stab.b (stab_is _), Stab.b (stab_is _), Stab.b (stab_num _), Stab.b (stab_q _), Stab.b (stab_is _), Stab.b (stab_is _), Stab.b (stab_is _), Stab.b (stab_is _), Stab.b (stab_num _), Stab.b (stab_is _), Stab.b (stab_q _), Stab.b (stab_is _), Stab.b (stab_is _), Stab.b (stab_is _), Stab.b (stab_is _), Stab.b (stab_num _), Stab.b (stab_num _), Stab.b (stab_is _), Stab.b (stab_q _), Stab.b (stab_q _), Stab.b (stab_is _), Stab.b (stab_is _), Stab.b (stab_is _), Stab.b (stab_is _), Stab.b (stab_num _), Stab.b (stab_num _), Stab.b (stab_is _), Stab.b (stab_q _), Stab.b (stab_q _), Stab.b (stab_is _), Stab.b (stab_is _), Stab.b (stab_is _), Stab.b (stab_is _), Stab.b (stab_num _), Stab.b (stab_is _), Stab.b (stab_q _), Stab.b (stab_is _), Stab.b (stab_is _), Stab.b (stab_is _), Stab.b (stab_is _), Stab.b (stab_num _), Stab.b (stab_is _), Stab.b (stab_q _), Stab.b (stab_is _), Stab.b (stab_is _), Stab.b (stab_is _), Stab.b (stab_is _), trivial⟩ (by simp) ⟨?_, ?_, ?_, ?_, ?_, ?_, ?_, ?_, ?_, ?_, ?_, ?_, ?_, ?_, ?_, ?_, ?_, ?_, ?_, ?_, ?_, ?_, ?_, ?_, ?_, ?_, ?_, ?_, ?_, ?_, ?_, ?_, ?_, ?_, ?_, ?_, ?_, ?_, ?_, ?_, ?_, ?_, ?_, ?_, ?_, ?_, ?_, ?_, ?_, trivial⟩ ?_
        case hfl12 => intro ts; refine (fillT_run ts _ 0 150 49 199 _ (by kernel_rfl) (by rfl) (by rfl) (by simp)).trans ?_; simp only [List.take_succ_cons, List.take_zero, List.drop_succ_cons, List.drop_zero, List.drop_nil, tsl, List.cons_append, List.nil_append, Nat.reduceAdd, Nat.zero_add]; rfl
        · intro ts W a ha hb hB hp; intro K hK; exact ⟨wp_move rfl ((ha 13).trans (by kernel_rfl)) (hK _ _ rfl (Below.refl _ _))⟩
        · intro ts W a ha hb hB hp; intro K hK; exact ⟨wp_move rfl ((ha 14).trans (by kernel_rfl)) (hK _ _ rfl (Below.refl _ _))⟩
        · intro ts W a ha hb hB hp; have h0 : ts 0 = _ := hp 0 (by kernel_rfl); have h1 : ts 1 = _ := hp 1 (by kernel_rfl); intro K hK; have e0 : a.eval (.tmp 150) = ts 0 := (ha 150).trans (by kernel_rfl); have e1 : a.eval (.tmp 151) = ts 1 := (ha 151).trans (by kernel_rfl); exact ⟨wp_bin (r := .bool false) rfl (e0.trans h0) (e1.trans h1) (by simp [go_sem]) (hK _ _ rfl (Below.refl _ _))⟩
        · intro ts W a ha hb hB hp; have h2 : ts 2 = _ := hp 2 (by kernel_rfl); intro K hK; have e2 : a.eval (.tmp 152) = ts 2 := (ha 152).trans (by kernel_rfl); exact ⟨wp_move rfl (e2.trans h2) (hK _ _ rfl (Below.refl _ _))⟩
        · intro ts W a ha hb hB hp; have h3 : ts 3 = _ := hp 3 (by kernel_rfl); refine Guarded.on h3 ?_; clear h3; intro K hK; exact ⟨wp_load_elem (k := 0) rfl ((ha 9).trans (by kernel_rfl)) (KM.out.b9.below hb) (by omega) fun v hv => hK v W hv (Below.refl _ _)⟩
        · intro ts W a ha hb hB hp; have h3 : ts 3 = _ := hp 3 (by kernel_rfl); refine Guarded.on h3 ?_; clear h3; intro K hK; exact ⟨wp_load_qe (k := 0) rfl ((ha 11).trans (by kernel_rfl)) (KM.out.b11.below hb) (by omega) trivial fun v hv => hK v W hv (Below.refl _ _)⟩
        · intro ts W a ha hb hB hp; have h4 : IsNum W (ts 4) (z) := hp 4 (by kernel_rfl); have h5 := hp 5 (by kernel_rfl); have h3 : ts 3 = _ := hp 3 (by kernel_rfl); refine Guarded.on h3 ?_; clear h3; intro K hK; have e4 : a.eval (.tmp 154) = ts 4 := (ha 154).trans (by kernel_rfl); have e5 : a.eval (.tmp 155) = ts 5 := (ha 155).trans (by kernel_rfl); refine ⟨wp_callf rfl (xs := #[ts 4, ts 5]) (by simp only [List.map_toArray, List.map_cons, List.map_nil, e4, e5]) (fun w => by kernel_rfl) ?_⟩; refine (is_any _ _ z W h4 h5 (HT4.out W (below_trans KM.out.bel hb)) 30000 KZ.out (by omega)).mono ?_; rintro e W9 ⟨rfl, hb9⟩; exact ⟨_, rfl, hK _ _ rfl hb9⟩
        · intro ts W a ha hb hB hp; have h6 : ts 6 = _ := hp 6 (by kernel_rfl); have h3 : ts 3 = _ := hp 3 (by kernel_rfl); refine Guarded.on h3 ?_; clear h3; intro K hK; have e6 : a.eval (.tmp 156) = ts 6 := (ha 156).trans (by kernel_rfl); exact ⟨wp_not rfl (e6.trans h6) (hK _ _ rfl (Below.refl _ _))⟩
        · intro ts W a ha hb hB hp; have h3 : ts 3 = _ := hp 3 (by kernel_rfl); have h7 : ts 7 = _ := hp 7 (by kernel_rfl); intro K hK; have e3 : a.eval (.tmp 153) = ts 3 := (ha 153).trans (by kernel_rfl); have e7 : a.eval (.tmp 157) = ts 7 := (ha 157).trans (by kernel_rfl); exact ⟨wp_pick rfl (e3.trans h3) (by simp only [Bool.false_eq_true, if_false]; exact (e7.trans h7)) (hK _ _ rfl (Below.refl _ _))⟩
        · intro ts W a ha hb hB hp; have h8 : ts 8 = _ := hp 8 (by kernel_rfl); intro K hK; have e8 : a.eval (.tmp 158) = ts 8 := (ha 158).trans (by kernel_rfl); exact ⟨wp_move rfl (e8.trans h8) (hK _ _ rfl (Below.refl _ _))⟩
        · intro ts W a ha hb hB hp; have h9 : ts 9 = _ := hp 9 (by kernel_rfl); refine Guarded.on h9 ?_; clear h9; intro K hK; exact ⟨wp_load_elem (k := 0) rfl ((ha 9).trans (by kernel_rfl)) (KM.out.b9.below hb) (by omega) fun v hv => hK v W hv (Below.refl _ _)⟩
        · intro ts W a ha hb hB hp; have h10 : IsNum W (ts 10) (z) := hp 10 (by kernel_rfl); have h9 : ts 9 = _ := hp 9 (by kernel_rfl); refine Guarded.on h9 ?_; clear h9; intro K hK; have e10 : a.eval (.tmp 160) = ts 10 := (ha 160).trans (by kernel_rfl); refine ⟨wp_callf rfl (xs := #[ts 10]) (by simp only [List.map_toArray, List.map_cons, List.map_nil, e10]) (fun w => by kernel_rfl) ?_⟩; refine (HC0.out W _ h10).mono ?_; rintro e W9 ⟨rfl, hb9⟩; exact ⟨_, rfl, hK _ _ rfl hb9⟩
        · intro ts W a ha hb hB hp; have h9 : ts 9 = _ := hp 9 (by kernel_rfl); refine Guarded.on h9 ?_; clear h9; intro K hK; exact ⟨wp_load_qe (k := 0) rfl ((ha 11).trans (by kernel_rfl)) (KM.out.b11.below hb) (by omega) trivial fun v hv => hK v W hv (Below.refl _ _)⟩
        · intro ts W a ha hb hB hp; have h12 := hp 12 (by kernel_rfl); have h9 : ts 9 = _ := hp 9 (by kernel_rfl); refine Guarded.on h9 ?_; clear h9; intro K hK; have e12 : a.eval (.tmp 162) = ts 12 := (ha 162).trans (by kernel_rfl); refine ⟨wp_callf rfl (xs := #[ts 12]) (by simp only [List.map_toArray, List.map_cons, List.map_nil, e12]) (fun w => by kernel_rfl) ?_⟩; refine (HD0.out W _ h12).mono ?_; rintro e W9 ⟨rfl, hb9⟩; exact ⟨_, rfl, hK _ _ rfl hb9⟩
        · intro ts W a ha hb hB hp; have h11 : ts 11 = _ := hp 11 (by kernel_rfl); have h13 : ts 13 = _ := hp 13 (by kernel_rfl); have h9 : ts 9 = _ := hp 9 (by kernel_rfl); refine Guarded.on h9 ?_; clear h9; intro K hK; have e11 : a.eval (.tmp 161) = ts 11 := (ha 161).trans (by kernel_rfl); have e13 : a.eval (.tmp 163) = ts 13 := (ha 163).trans (by kernel_rfl); exact ⟨wp_bin (r := .bool false) rfl (e11.trans h11) (e13.trans h13) (by cases c0 <;> kernel_rfl) (hK _ _ rfl (Below.refl _ _))⟩
        · intro ts W a ha hb hB hp; have h9 : ts 9 = _ := hp 9 (by kernel_rfl); have h14 : ts 14 = _ := hp 14 (by kernel_rfl); intro K hK; have e9 : a.eval (.tmp 159) = ts 9 := (ha 159).trans (by kernel_rfl); have e14 : a.eval (.tmp 164) = ts 14 := (ha 164).trans (by kernel_rfl); exact ⟨wp_pick rfl (e9.trans h9) (by simp only [Bool.false_eq_true, if_false]; exact (e14.trans h14)) (hK _ _ rfl (Below.refl _ _))⟩
        · intro ts W a ha hb hB hp; have h15 : ts 15 = _ := hp 15 (by kernel_rfl); intro K hK; have e15 : a.eval (.tmp 165) = ts 15 := (ha 165).trans (by kernel_rfl); exact ⟨wp_move rfl (e15.trans h15) (hK _ _ rfl (Below.refl _ _))⟩
        · intro ts W a ha hb hB hp; have h16 : ts 16 = _ := hp 16 (by kernel_rfl); refine Guarded.on h16 ?_; clear h16; intro K hK; exact ⟨wp_load_elem (k := 0) rfl ((ha 9).trans (by kernel_rfl)) (KM.out.b9.below hb) (by omega) fun v hv => hK v W hv (Below.refl _ _)⟩
        · intro ts W a ha hb hB hp; have h16 : ts 16 = _ := hp 16 (by kernel_rfl); refine Guarded.on h16 ?_; clear h16; intro K hK; exact ⟨wp_load_elem (k := 0) rfl ((ha 10).trans (by kernel_rfl)) (KM.out.b10.below hb) (by omega) fun v hv => hK v W hv (Below.refl _ _)⟩
        · intro ts W a ha hb hB hp; have h17 : IsNum W (ts 17) (z) := hp 17 (by kernel_rfl); have h18 : IsNum W (ts 18) (y) := hp 18 (by kernel_rfl); have h16 : ts 16 = _ := hp 16 (by kernel_rfl); refine Guarded.on h16 ?_; clear h16; intro K hK; have e17 : a.eval (.tmp 167) = ts 17 := (ha 167).trans (by kernel_rfl); have e18 : a.eval (.tmp 168) = ts 18 := (ha 168).trans (by kernel_rfl); refine ⟨wp_callf rfl (xs := #[ts 17, ts 18]) (by simp only [List.map_toArray, List.map_cons, List.map_nil, e17, e18]) (fun w => by kernel_rfl) ?_⟩; refine (HC1.out W _ _ h17 h18).mono ?_; rintro e W9 ⟨rfl, hb9⟩; exact ⟨_, rfl, hK _ _ rfl hb9⟩
        · intro ts W a ha hb hB hp; have h16 : ts 16 = _ := hp 16 (by kernel_rfl); refine Guarded.on h16 ?_; clear h16; intro K hK; exact ⟨wp_load_qe (k := 0) rfl ((ha 11).trans (by kernel_rfl)) (KM.out.b11.below hb) (by omega) trivial fun v hv => hK v W hv (Below.refl _ _)⟩
        · intro ts W a ha hb hB hp; have h16 : ts 16 = _ := hp 16 (by kernel_rfl); refine Guarded.on h16 ?_; clear h16; intro K hK; exact ⟨wp_load_qe (k := 0) rfl ((ha 12).trans (by kernel_rfl)) (KM.out.b12.below hb) (by omega) trivial fun v hv => hK v W hv (Below.refl _ _)⟩
        · intro ts W a ha hb hB hp; have h20 := hp 20 (by kernel_rfl); have h21 := hp 21 (by kernel_rfl); have h16 : ts 16 = _ := hp 16 (by kernel_rfl); refine Guarded.on h16 ?_; clear h16; intro K hK; have e20 : a.eval (.tmp 170) = ts 20 := (ha 170).trans (by kernel_rfl); have e21 : a.eval (.tmp 171) = ts 21 := (ha 171).trans (by kernel_rfl); refine ⟨wp_callf rfl (xs := #[ts 20, ts 21]) (by simp only [List.map_toArray, List.map_cons, List.map_nil, e20, e21]) (fun w => by kernel_rfl) ?_⟩; refine (HD1.out W _ _ h20 h21).mono ?_; rintro e W9 ⟨rfl, hb9⟩; exact ⟨_, rfl, hK _ _ rfl hb9⟩
        · intro ts W a ha hb hB hp; have h19 : ts 19 = _ := hp 19 (by kernel_rfl); have h22 : ts 22 = _ := hp 22 (by kernel_rfl); have h16 : ts 16 = _ := hp 16 (by kernel_rfl); refine Guarded.on h16 ?_; clear h16; intro K hK; have e19 : a.eval (.tmp 169) = ts 19 := (ha 169).trans (by kernel_rfl); have e22 : a.eval (.tmp 172) = ts 22 := (ha 172).trans (by kernel_rfl); exact ⟨wp_bin (r := .bool false) rfl (e19.trans h19) (e22.trans h22) (by cases c1 <;> kernel_rfl) (hK _ _ rfl (Below.refl _ _))⟩
        · intro ts W a ha hb hB hp; have h16 : ts 16 = _ := hp 16 (by kernel_rfl); have h23 : ts 23 = _ := hp 23 (by kernel_rfl); intro K hK; have e16 : a.eval (.tmp 166) = ts 16 := (ha 166).trans (by kernel_rfl); have e23 : a.eval (.tmp 173) = ts 23 := (ha 173).trans (by kernel_rfl); exact ⟨wp_pick rfl (e16.trans h16) (by simp only [Bool.false_eq_true, if_false]; exact (e23.trans h23)) (hK _ _ rfl (Below.refl _ _))⟩
        · intro ts W a ha hb hB hp; have h24 : ts 24 = _ := hp 24 (by kernel_rfl); intro K hK; have e24 : a.eval (.tmp 174) = ts 24 := (ha 174).trans (by kernel_rfl); exact ⟨wp_move rfl (e24.trans h24) (hK _ _ rfl (Below.refl _ _))⟩
        · intro ts W a ha hb hB hp; have h25 : ts 25 = _ := hp 25 (by kernel_rfl); refine Guarded.on h25 ?_; clear h25; intro K hK; exact ⟨wp_load_elem (k := 0) rfl ((ha 9).trans (by kernel_rfl)) (KM.out.b9.below hb) (by omega) fun v hv => hK v W hv (Below.refl _ _)⟩
        · intro ts W a ha hb hB hp; have h25 : ts 25 = _ := hp 25 (by kernel_rfl); refine Guarded.on h25 ?_; clear h25; intro K hK; exact ⟨wp_load_elem (k := 0) rfl ((ha 10).trans (by kernel_rfl)) (KM.out.b10.below hb) (by omega) fun v hv => hK v W hv (Below.refl _ _)⟩
        · intro ts W a ha hb hB hp; have h26 : IsNum W (ts 26) (z) := hp 26 (by kernel_rfl); have h27 : IsNum W (ts 27) (y) := hp 27 (by kernel_rfl); have h25 : ts 25 = _ := hp 25 (by kernel_rfl); refine Guarded.on h25 ?_; clear h25; intro K hK; have e26 : a.eval (.tmp 176) = ts 26 := (ha 176).trans (by kernel_rfl); have e27 : a.eval (.tmp 177) = ts 27 := (ha 177).trans (by kernel_rfl); refine ⟨wp_callf rfl (xs := #[ts 26, ts 27]) (by simp only [List.map_toArray, List.map_cons, List.map_nil, e26, e27]) (fun w => by kernel_rfl) ?_⟩; refine (HC2.out W _ _ h26 h27).mono ?_; rintro e W9 ⟨rfl, hb9⟩; exact ⟨_, rfl, hK _ _ rfl hb9⟩
        · intro ts W a ha hb hB hp; have h25 : ts 25 = _ := hp 25 (by kernel_rfl); refine Guarded.on h25 ?_; clear h25; intro K hK; exact ⟨wp_load_qe (k := 0) rfl ((ha 11).trans (by kernel_rfl)) (KM.out.b11.below hb) (by omega) trivial fun v hv => hK v W hv (Below.refl _ _)⟩
        · intro ts W a ha hb hB hp; have h25 : ts 25 = _ := hp 25 (by kernel_rfl); refine Guarded.on h25 ?_; clear h25; intro K hK; exact ⟨wp_load_qe (k := 0) rfl ((ha 12).trans (by kernel_rfl)) (KM.out.b12.below hb) (by omega) trivial fun v hv => hK v W hv (Below.refl _ _)⟩
        · intro ts W a ha hb hB hp; have h29 := hp 29 (by kernel_rfl); have h30 := hp 30 (by kernel_rfl); have h25 : ts 25 = _ := hp 25 (by kernel_rfl); refine Guarded.on h25 ?_; clear h25; intro K hK; have e29 : a.eval (.tmp 179) = ts 29 := (ha 179).trans (by kernel_rfl); have e30 : a.eval (.tmp 180) = ts 30 := (ha 180).trans (by kernel_rfl); refine ⟨wp_callf rfl (xs := #[ts 29, ts 30]) (by simp only [List.map_toArray, List.map_cons, List.map_nil, e29, e30]) (fun w => by kernel_rfl) ?_⟩; refine (HD2.out W _ _ h29 h30).mono ?_; rintro e W9 ⟨rfl, hb9⟩; exact ⟨_, rfl, hK _ _ rfl hb9⟩
        · intro ts W a ha hb hB hp; have h28 : ts 28 = _ := hp 28 (by kernel_rfl); have h31 : ts 31 = _ := hp 31 (by kernel_rfl); have h25 : ts 25 = _ := hp 25 (by kernel_rfl); refine Guarded.on h25 ?_; clear h25; intro K hK; have e28 : a.eval (.tmp 178) = ts 28 := (ha 178).trans (by kernel_rfl); have e31 : a.eval (.tmp 181) = ts 31 := (ha 181).trans (by kernel_rfl); exact ⟨wp_bin (r := .bool false) rfl (e28.trans h28) (e31.trans h31) (by simp [go_sem]) (hK _ _ rfl (Below.refl _ _))⟩
        · intro ts W a ha hb hB hp; have h25 : ts 25 = _ := hp 25 (by kernel_rfl); have h32 : ts 32 = _ := hp 32 (by kernel_rfl); intro K hK; have e25 : a.eval (.tmp 175) = ts 25 := (ha 175).trans (by kernel_rfl); have e32 : a.eval (.tmp 182) = ts 32 := (ha 182).trans (by kernel_rfl); exact ⟨wp_pick rfl (e25.trans h25) (by simp only [Bool.false_eq_true, if_false]; exact (e32.trans h32)) (hK _ _ rfl (Below.refl _ _))⟩
        · intro ts W a ha hb hB hp; have h33 : ts 33 = _ := hp 33 (by kernel_rfl); intro K hK; have e33 : a.eval (.tmp 183) = ts 33 := (ha 183).trans (by kernel_rfl); exact ⟨wp_move rfl (e33.trans h33) (hK _ _ rfl (Below.refl _ _))⟩
        · intro ts W a ha hb hB hp; have h34 : ts 34 = _ := hp 34 (by kernel_rfl); refine Guarded.on h34 ?_; clear h34; intro K hK; exact ⟨wp_load_elem (k := 0) rfl ((ha 9).trans (by kernel_rfl)) (KM.out.b9.below hb) (by omega) fun v hv => hK v W hv (Below.refl _ _)⟩
        · intro ts W a ha hb hB hp; have h35 : IsNum W (ts 35) (z) := hp 35 (by kernel_rfl); have h34 : ts 34 = _ := hp 34 (by kernel_rfl); refine Guarded.on h34 ?_; clear h34; intro K hK; have e35 : a.eval (.tmp 185) = ts 35 := (ha 185).trans (by kernel_rfl); refine ⟨wp_callf rfl (xs := #[ts 35]) (by simp only [List.map_toArray, List.map_cons, List.map_nil, e35]) (fun w => by kernel_rfl) ?_⟩; refine (HC3.out W _ h35).mono ?_; rintro e W9 ⟨rfl, hb9⟩; exact ⟨_, rfl, hK _ _ rfl hb9⟩
        · intro ts W a ha hb hB hp; have h34 : ts 34 = _ := hp 34 (by kernel_rfl); refine Guarded.on h34 ?_; clear h34; intro K hK; exact ⟨wp_load_qe (k := 0) rfl ((ha 11).trans (by kernel_rfl)) (KM.out.b11.below hb) (by omega) trivial fun v hv => hK v W hv (Below.refl _ _)⟩
        · intro ts W a ha hb hB hp; have h37 := hp 37 (by kernel_rfl); have h34 : ts 34 = _ := hp 34 (by kernel_rfl); refine Guarded.on h34 ?_; clear h34; intro K hK; have e37 : a.eval (.tmp 187) = ts 37 := (ha 187).trans (by kernel_rfl); refine ⟨wp_callf rfl (xs := #[ts 37]) (by simp only [List.map_toArray, List.map_cons, List.map_nil, e37]) (fun w => by kernel_rfl) ?_⟩; refine (HD3.out W _ h37).mono ?_; rintro e W9 ⟨rfl, hb9⟩; exact ⟨_, rfl, hK _ _ rfl hb9⟩
        · intro ts W a ha hb hB hp; have h36 : ts 36 = _ := hp 36 (by kernel_rfl); have h38 : ts 38 = _ := hp 38 (by kernel_rfl); have h34 : ts 34 = _ := hp 34 (by kernel_rfl); refine Guarded.on h34 ?_; clear h34; intro K hK; have e36 : a.eval (.tmp 186) = ts 36 := (ha 186).trans (by kernel_rfl); have e38 : a.eval (.tmp 188) = ts 38 := (ha 188).trans (by kernel_rfl); exact ⟨wp_bin (r := .bool false) rfl (e36.trans h36) (e38.trans h38) (by simp [go_sem]) (hK _ _ rfl (Below.refl _ _))⟩
        · intro ts W a ha hb hB hp; have h34 : ts 34 = _ := hp 34 (by kernel_rfl); have h39 : ts 39 = _ := hp 39 (by kernel_rfl); intro K hK; have e34 : a.eval (.tmp 184) = ts 34 := (ha 184).trans (by kernel_rfl); have e39 : a.eval (.tmp 189) = ts 39 := (ha 189).trans (by kernel_rfl); exact ⟨wp_pick rfl (e34.trans h34) (by simp only [Bool.false_eq_true, if_false]; exact (e39.trans h39)) (hK _ _ rfl (Below.refl _ _))⟩
        · intro ts W a ha hb hB hp; have h40 : ts 40 = _ := hp 40 (by kernel_rfl); intro K hK; have e40 : a.eval (.tmp 190) = ts 40 := (ha 190).trans (by kernel_rfl); exact ⟨wp_move rfl (e40.trans h40) (hK _ _ rfl (Below.refl _ _))⟩
        · intro ts W a ha hb hB hp; have h41 : ts 41 = _ := hp 41 (by kernel_rfl); refine Guarded.on h41 ?_; clear h41; intro K hK; exact ⟨wp_load_elem (k := 0) rfl ((ha 9).trans (by kernel_rfl)) (KM.out.b9.below hb) (by omega) fun v hv => hK v W hv (Below.refl _ _)⟩
        · intro ts W a ha hb hB hp; have h42 : IsNum W (ts 42) (z) := hp 42 (by kernel_rfl); have h41 : ts 41 = _ := hp 41 (by kernel_rfl); refine Guarded.on h41 ?_; clear h41; intro K hK; have e42 : a.eval (.tmp 192) = ts 42 := (ha 192).trans (by kernel_rfl); refine ⟨wp_callf rfl (xs := #[ts 42]) (by simp only [List.map_toArray, List.map_cons, List.map_nil, e42]) (fun w => by kernel_rfl) ?_⟩; refine (HC4.out W _ h42).mono ?_; rintro e W9 ⟨rfl, hb9⟩; exact ⟨_, rfl, hK _ _ rfl hb9⟩
        · intro ts W a ha hb hB hp; have h41 : ts 41 = _ := hp 41 (by kernel_rfl); refine Guarded.on h41 ?_; clear h41; intro K hK; exact ⟨wp_load_qe (k := 0) rfl ((ha 11).trans (by kernel_rfl)) (KM.out.b11.below hb) (by omega) trivial fun v hv => hK v W hv (Below.refl _ _)⟩
        · intro ts W a ha hb hB hp; have h44 := hp 44 (by kernel_rfl); have h41 : ts 41 = _ := hp 41 (by kernel_rfl); refine Guarded.on h41 ?_; clear h41; intro K hK; have e44 : a.eval (.tmp 194) = ts 44 := (ha 194).trans (by kernel_rfl); refine ⟨wp_callf rfl (xs := #[ts 44]) (by simp only [List.map_toArray, List.map_cons, List.map_nil, e44]) (fun w => by kernel_rfl) ?_⟩; refine (HD3.out W _ h44).mono ?_; rintro e W9 ⟨rfl, hb9⟩; exact ⟨_, rfl, hK _ _ rfl hb9⟩
        · intro ts W a ha hb hB hp; have h45 : ts 45 = _ := hp 45 (by kernel_rfl); have h41 : ts 41 = _ := hp 41 (by kernel_rfl); refine Guarded.on h41 ?_; clear h41; intro K hK; have e45 : a.eval (.tmp 195) = ts 45 := (ha 195).trans (by kernel_rfl); exact ⟨wp_bin (r := .bool c4) rfl (e45.trans h45) rfl (by rw [← K4.out]; simp [go_sem]; rfl) (hK _ _ rfl (Below.refl _ _))⟩
        · intro ts W a ha hb hB hp; have h43 : ts 43 = _ := hp 43 (by kernel_rfl); have h46 : ts 46 = _ := hp 46 (by kernel_rfl); have h41 : ts 41 = _ := hp 41 (by kernel_rfl); refine Guarded.on h41 ?_; clear h41; intro K hK; have e43 : a.eval (.tmp 193) = ts 43 := (ha 193).trans (by kernel_rfl); have e46 : a.eval (.tmp 196) = ts 46 := (ha 196).trans (by kernel_rfl); exact ⟨wp_bin (r := .bool false) rfl (e43.trans h43) (e46.trans h46) (by cases c4 <;> kernel_rfl) (hK _ _ rfl (Below.refl _ _))⟩
        · intro ts W a ha hb hB hp; have h41 : ts 41 = _ := hp 41 (by kernel_rfl); have h47 : ts 47 = _ := hp 47 (by kernel_rfl); intro K hK; have e41 : a.eval (.tmp 191) = ts 41 := (ha 191).trans (by kernel_rfl); have e47 : a.eval (.tmp 197) = ts 47 := (ha 197).trans (by kernel_rfl); exact ⟨wp_pick rfl (e41.trans h41) (by simp only [Bool.false_eq_true, if_false]; exact (e47.trans h47)) (hK _ _ rfl (Below.refl _ _))⟩
        intro ts W5 hb5 hh hap
        have e48 := held_is (hh 48 (by simp)) rfl
        dsimp only
        rw [e48]
        clear hh hap e48
        generalize ts = us at *
        have KM5 := Lib.hid (KM.out.below hb5)
        clear hb5 KM HC0 HD0 HC1 HD1 HC2 HD2 HC3 HD3 HC4 K4
        obtain ⟨s, hs⟩ : ∃ s, s = strOfNums (ctext z) := ⟨_, rfl⟩
        have HX := Lib.hid (fun W v (h : IsQ W v z) => show Calls Tryz.prog 43 #[v] W fun e w' => e = .returned (.string s) ∧ Below W.heap.size W w' from by rw [hs]; exact rText_any v z W h 30000 KZ.out (by omega))
        have KS := Lib.hid hs
        clear hs
        go_upto_region 31 with fail
        refine region_lit [.val (kQ z), .val (kIs (.string s)), .val (kIs (.int .i64 ((s.size : Nat) : Int))), .val (kIs (.bool (decide ((3000 : Int) < ((s.size : Nat) : Int)))))]
          ?fl13 ?hfl13 (by kernel_rfl) (by kernel_rfl) (by kernel_rfl) (by kernel_rfl) (by kernel_rfl) ⟨Stab.b (stab_q _), Stab.b (stab_is _), Stab.b (stab_is _), Stab.b (stab_is _), trivial⟩ (by simp) ⟨?_, ?_, ?_, ?_, trivial⟩ ?_
        case hfl13 => intro ts; simp only [fillT, Nat.zero_add, Nat.reduceAdd, sA, sB, sC]; rfl
        · intro ts W hb hB hp; intro K hK; dsimp only at hK ⊢; have HK := Lib.hid hK; clear hK hp; refine ⟨?_⟩; refine wp_load_qe (k := 0) rfl rfl (KM5.out.b11.below hb) (by omega) trivial (fun v hv => HK.out _ _ hv (Below.refl _ _))
        · intro ts W hb hB hp; have h0 := hp 0 (by kernel_rfl); intro K hK; dsimp only at hK ⊢; have HK := Lib.hid hK; clear hK hp; refine ⟨?_⟩; go_simp; refine (HX.out W _ h0).mono ?_; rintro e W9 ⟨rfl, hb9⟩; exact HK.out _ _ rfl hb9
        · intro ts W hb hB hp; have h1 : ts 1 = _ := hp 1 (by kernel_rfl); intro K hK; simp only [h1] at hK ⊢; have HK := Lib.hid hK; clear hK hp; refine ⟨?_⟩; go_simp; exact HK.out _ _ rfl (Below.refl _ _)
        · intro ts W hb hB hp; have h2 : ts 2 = _ := hp 2 (by kernel_rfl); intro K hK; simp only [h2] at hK ⊢; have HK := Lib.hid hK; clear hK hp; refine ⟨?_⟩; go_simp; exact HK.out _ _ rfl (Below.refl _ _)
        intro ts W6 hb6 hh hap
        have e3 := held_is (hh 3 (by simp)) rfl
        simp only [e3]
        clear hh hap e3
        generalize ts = us2 at *
        have KM6 := Lib.hid (KM5.out.below hb6)
        clear hb6 KM5 HX
        by_cases h3 : 3000 < s.size
        · have d3 : decide ((3000 : Int) < ((s.size : Nat) : Int)) = true := by simp; omega
          go_wp2_with fail
          refine (HAW.out _ (below_trans KB.out KM6.out.bel)).mono ?_
          rintro e W7 ⟨rfl, hb7⟩
          go_wp2
          go_ret
          exact ⟨rfl, below_trans (below_trans KB.out KM6.out.bel) hb7⟩
        have d3 : decide ((3000 : Int) < ((s.size : Nat) : Int)) = false := by simp; omega
        have KZ6 := Lib.hid (show Sz z 6000 from sz_text (n := 3000) (by rw [← KS.out]; omega) (by omega))
        clear KS KZ
        go_upto_region 33 with fail
        have hgl := HL.out.lt
        have hgm := HM.out.lt
        have hB0 := KB.out.size
        refine region_free10L (fun W => wr.heap.size ≤ W.heap.size ∧ Below w.heap.size w W) (pG w.heap.size wr.heap.size nn F z (.slice (some ⟨gl, 0, none⟩) nn cl) (.slice (some ⟨gm, 0, none⟩) nn cm)) (mG g9 g11 gl cl gm cm nn F z) (rG w.heap.size wr.heap.size) ?fl14 ?hfl14
          (by kernel_rfl) (by kernel_rfl) (by kernel_rfl) (by kernel_rfl) (by kernel_rfl) (by kernel_rfl) (by kernel_rfl) (by kernel_rfl) ?_ (fun i j v W W' hij _ _ hr h => pG_keeps i j v W W' hij hr h) (fun i j W W' hij _ _ hr h => mG_keeps KM6.out.l9 KM6.out.l11 i j W W' hij hr h) ?_ ⟨?_, ?_, ?_, ?_, ?_, ?_, ?_, ?_, trivial⟩ ?_
        case hfl14 => intro ts; simp only [fillT, Nat.zero_add, Nat.reduceAdd, sA, sB, sC]; rfl
        · intro W hW
          have hbW : Below W6.heap.size W6 W := by
            rcases hW with rfl | rfl
            · exact Below.refl _ _
            · exact (Below.refl _ _).drew
          have M := KM6.out.below hbW
          exact ⟨⟨by have := M.b9.lt; have := M.l9; omega, below_trans KB.out M.bel⟩, mG_start M.b9 (HL.out.below five_num M.bel) M.b11 (HM.out.below five_q M.bel)⟩
        · rintro i W W' hr ⟨hs, hb⟩
          obtain ⟨T, ha⟩ := hr.any
          exact ⟨Nat.le_trans hs ha.size, ha.below hb (by omega)⟩
        · intro ts W hI hm hp K hK; dsimp only at hK ⊢; exact ⟨wp_move rfl rfl (hK _ _ rfl (rG_of (by omega) (by omega) (Below.refl _ _)))⟩
        · intro ts W hI hm hp K hK; dsimp only at hK ⊢; exact ⟨wp_load_elem (k := 0) rfl rfl (show NBlk W g9 1 (fun _ => z) from hm) (by omega) fun v hv => hK v W hv (rG_of (by omega) (by omega) (Below.refl _ _))⟩
        · intro ts W hI hm hp K hK; have h1 : IsNum W (ts 1) z := hp 1 (by kernel_rfl); obtain ⟨W8, hr8, hb8, hn8⟩ := gb_num W (ts 1) z h1 hI.1; dsimp only at hK ⊢; exact ⟨wp_buildSlice rfl (by simp [Act.eval]) hr8 (hK _ _ hn8 (rG_of (by omega) (by omega) hb8))⟩
        · intro ts W hI hm hp K hK; have h0 : ts 0 = _ := hp 0 (by kernel_rfl); have h2 : GB 27 IsNum wr.heap.size z (ts 2) W := hp 2 (by kernel_rfl); obtain ⟨v8, W8, hr8, hn8, hb8⟩ := app_num (show GL 27 IsNum W gl cl nn F from hm) lgl hgl hI.1 (by omega) h2; dsimp only at hK ⊢; exact ⟨wp_append rfl (show ts 0 = _ from h0) rfl hr8 (hK _ _ hn8 hb8)⟩
        · intro ts W hI hm hp K hK; dsimp only at hK ⊢; exact ⟨wp_move rfl rfl (hK _ _ rfl (rG_of (by omega) (by omega) (Below.refl _ _)))⟩
        · intro ts W hI hm hp K hK; dsimp only at hK ⊢; exact ⟨wp_load_qe (k := 0) rfl rfl (show QBlk W g11 1 (fun _ => True) (fun _ => z) from hm) (by omega) trivial fun v hv => hK v W hv (rG_of (by omega) (by omega) (Below.refl _ _))⟩
        · intro ts W hI hm hp K hK; have h5 : IsQ W (ts 5) z := hp 5 (by kernel_rfl); obtain ⟨W8, hr8, hb8, hn8⟩ := gb_q W (ts 5) z h5 hI.1; dsimp only at hK ⊢; exact ⟨wp_buildSlice rfl (by simp [Act.eval]) hr8 (hK _ _ hn8 (rG_of (by omega) (by omega) hb8))⟩
        · intro ts W hI hm hp K hK; have h4 : ts 4 = _ := hp 4 (by kernel_rfl); have h6 : GB 34 IsQ wr.heap.size z (ts 6) W := hp 6 (by kernel_rfl); obtain ⟨v8, W8, hr8, hn8, hb8⟩ := app_q (show GL 34 IsQ W gm cm nn F from hm) lgm hgm hI.1 (by omega) h6; dsimp only at hK ⊢; exact ⟨wp_append rfl (show ts 4 = _ from h4) rfl hr8 (hK _ _ hn8 hb8)⟩
        rintro ts W7 ⟨hs, hb⟩ hp K hK
        obtain ⟨gl2, cl2, e8, l8, G8⟩ : GS 27 IsNum w.heap.size (nn + 1) (upf F nn z) (ts 3) W7 := hp 3 (by omega)
        obtain ⟨gm2, cm2, e9, l9, G9⟩ : GS 34 IsQ w.heap.size (nn + 1) (upf F nn z) (ts 7) W7 := hp 7 (by omega)
        simp only [e8, e9]
        have HK := Lib.hid hK
        clear hp e8 e9 hK
        refine ⟨?_⟩
        go_simp
        refine HK.out _ _ ?_
        clear HK
        generalize ts = us3 at *
        have HS2 : ∀ j, j < nn + 1 → Sz (upf F nn z j) 6000 := fun j hj => by
          by_cases hjn : j = nn
          · rw [hjn, upf_same]; exact KZ6.out
          · rw [upf_other _ _ hjn]; exact HS.out j (by omega)
        have hn1 : nn + 1 = len + (i + 1) := by have := KNN.out; omega
        have KR := Lib.hid (show ScriptRel w len len' (.slice (some ⟨gl2, 0, none⟩) (nn + 1) cl2) (.slice (some ⟨gm2, 0, none⟩) (nn + 1) cm2) (.int .i64 ((i : Int) + 1)) W7 from by
          rw [hn1] at G8 G9 HS2 ⊢
          exact ⟨i + 1, gl2, cl2, gm2, cm2, upf F nn z, (by simp), by omega, rfl, rfl, l8, l9, G8, G9, HS2, hb⟩)
        clear hs hb G8 G9 HS2 hn1 KM6 HL HM HS KZ6
        go_wp2
        go_roundw
        case rel => exact KR.out
        case measure => simp [intOf]; omega
    · obtain rfl : i = len' := by omega
      go_wp2_with fail
      refine (HAW.out _ KB.out).mono ?_
      rintro e W3 ⟨rfl, hb3⟩
      go_wp2
      go_ret
      exact ⟨rfl, below_trans KB.out hb3⟩
end Go.Proofs.YtlljeccfhmojnaaGreatDoor
