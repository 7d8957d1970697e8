import Derived.Test.YtphlmmjlpbledaaGreatDoorK37
import Derived.Test.YtphlmmjlpbledaaGreatDoorK41
import Derived.Test.YtphlmmjlpbledaaGreatDoorK42
import Derived.Test.YtphlmmjlpbledaaGreatDoorK44
set_option linter.unusedSimpArgs false
set_option linter.unusedVariables false
namespace Go.Proofs.YtphlmmjlpbledaaGreatDoor
open Go.RowKit
set_option maxRecDepth 100000
abbrev zq (w : World) : World := w.alloc (.cells #[.bool false, .slice none 0 0, .bool false, .slice none 0 0, .slice none 0 0] 35)
theorem zq_box {w W : World} (h : Below (zq w).heap.size (zq w) W) : W.heap[w.heap.size]? = some (.cells #[.bool false, .slice none 0 0, .bool false, .slice none 0 0, .slice none 0 0] 35 (0, 0)) := (h.block w.heap.size (by simp)).trans (heap_alloc_new w _)
theorem zq_below {w W : World} (h : Below (zq w).heap.size (zq w) W) : Below w.heap.size w W := below_trans (below_alloc w _) h
theorem i_list (r : List UInt8) : ((sl r).toList == [105]) = decide (r = [105]) := by rw [sl_list, Bool.eq_iff_iff]; simp
theorem sgn_of (p : Bool) (a : Nat) : (if p then -(a : Int) else (a : Int)).natAbs = a ∧ (p && decide (0 < a)) = decide ((if p then -(a : Int) else (a : Int)) < 0) := by
  cases p
  · simp
  · simp
def sgz (p : Bool) (a : Nat) : Int := if p then -(a : Int) else (a : Int)
theorem pt_re (a d : Nat) (p : Bool) (hd : 0 < d) : (ptV ⟨a, d, p, false⟩).re * (d : Rat) = (sgz p a : Rat) ∧ (ptV ⟨a, d, p, false⟩).im * (d : Rat) = ((0 : Int) : Rat) := ⟨pt_terms a d p hd, cx_zero_den d⟩
theorem pt_im (a d : Nat) (p : Bool) (hd : 0 < d) : (ptV ⟨a, d, p, true⟩).re * (d : Rat) = ((0 : Int) : Rat) ∧ (ptV ⟨a, d, p, true⟩).im * (d : Rat) = (sgz p a : Rat) := ⟨cx_zero_den d, pt_terms a d p hd⟩
theorem sgz_wl (p : Bool) (a : Nat) : wl (sgz p a).natAbs = wl a := by
  have := (sgn_of p a).1
  unfold sgz
  rw [this]
theorem rsgz_any (p : Bool) (v : Value) (x : Nat) (w : World) (h : IsNat w v x) : Calls Tryz.prog 58 #[.bool p, v] w (RetRI w (sgz p x)) :=
  rsigned_any p v x (sgz p x) w h (sgn_of p x).1 (sgn_of p x).2
theorem ptV_sz' (a d : Nat) (p im : Bool) (hd : 0 < d) (h1 : wl a ≤ 10000) (h2 : wl d ≤ 10000) : Sz (ptV ⟨a, d, p, im⟩) 20000 := by
  have hn : wl (sgz p a).natAbs ≤ 20000 := by rw [sgz_wl]; omega
  have hz : wl (0 : Int).natAbs ≤ 20000 := by simp [wl_zero]
  cases im
  · exact Sz.of hd (pt_re a d p hd).1 (pt_re a d p hd).2 hn hz (by omega)
  · exact Sz.of hd (pt_im a d p hd).1 (pt_im a d p hd).2 hz hn (by omega)
theorem nz_of {n d : Nat} (h : n = wl d) (hd : 0 < d) : ((n : Int) == 0) = false := by
  have : n ≠ 0 := fun e => by have := wl_eq_zero.1 (h.symm.trans e); omega
  simp
  omega
theorem zn_of {n d : Nat} (h : n = wl d) (hd : d = 0) : ((n : Int) == 0) = true := by rw [h, hd, wl_zero]; rfl
def ROpen (l : List UInt8) (w : World) (s4 s5 : Value) (wx : World) : Prop := ∃ (p : Nat) (b : Bool), s4 = .bool b ∧ s5 = .int .i64 (p : Int) ∧ isHd 45 l = b ∧ l.drop p = off 45 l ∧ p ≤ l.length ∧ wx = w
theorem rparse_long (l : List UInt8) (w : World) (h : 4096 < l.length) (hs : l.length ≤ 1000000000) : Calls Tryz.prog 13 #[.string (sl l)] w (RetQE w .zero 4) := by
  have hsz := sl_size l
  have hg : (4096 : Int) < (l.length : Int) := by omega
  have HW := hid (fun W => rWhole_any 0 W (by omega) (by omega))
  go_enter Tryz.func13, Tryz.ntmps13
  go_wp2_with fail
  refine (HW.out _).mono ?_
  rintro e wf ⟨r, rfl, hr, hb2⟩
  have HBF := hid (show Below (zq w).heap.size (zq w) wf from hb2)
  obtain ⟨A1f, n1f, c1f, p1f, A2f, n2f, c2f, p2f, A3f, n3f, c3f, af, bf, df, rfl, -⟩ := hr.parts
  have HRF := hid hr
  obtain ⟨f0, f1, f2, f3, f4, y0, y1, y2, y3, y4⟩ := bx5 (zq_box HBF.out)
  clear hb2 hr
  go_wp2
  have NB : NumBox wf w.heap.size := .nilQ f0 f1 f2 f3 f4
  refine bodyPost_ret (v := .tuple #[.agg #[.bool p1f, .slice A1f n1f c1f, .bool p2f, .slice A2f n2f c2f, .slice A3f n3f c3f], .int .i64 4]) (by simp [results, Tryz.results13]; exact run_loadQe NB _ _ _ _ _ _) rfl ?_
  exact RetQE.box (zq_below HBF.out) (Nat.le_refl _) NB HRF.out _ _ _ _ _
set_option maxHeartbeats 4000000 in
theorem rparse_main (l : List UInt8) (c0 : UInt8) (tl : List UInt8) (w : World) (hl : l = c0 :: tl) (hs : l.length ≤ 4096) :
    Calls Tryz.prog 13 #[.string (sl l)] w (RetQE w (pVal l) (pErr l)) := by
  have hsz := sl_size l
  obtain ⟨L, hL⟩ : ∃ L, L = l.length := ⟨_, rfl⟩
  rw [← hL] at hsz
  have hg : ¬ (4096 : Int) < (L : Int) := by omega
  have HW := hid (fun W => rWhole_any 0 W (by omega) (by omega))
  have HM := hid (fun (t : List UInt8) W (h : t.length ≤ 100000) => rmag_any t W h)
  have HS4 := hid hs
  have HLL := hid hL
  obtain ⟨hk0, hc0⟩ := char_at (l := l) (p := 0) (c := c0) (t := tl) (by rw [hl]; rfl)
  have hL0n : 0 < L := by rw [← hsz]; exact hk0
  have hL0 : (0 : Int) < (L : Int) := by omega
  have HC0 := hid hc0
  have HL := hid hl
  clear hL hs hc0 hl
  go_enter Tryz.func13, Tryz.ntmps13
  go_upto_if 25 with fail
  go_cut [4, 5] from 23 to 25 (fun s4 s5 wx => ROpen l (zq w) s4 s5 wx)
  case first =>
    by_cases c45 : c0 = 45
    · subst c45
      have q0 : ((((sl l)[0]'hk0).toNat : Int) == 45) = true := by rw [HC0.out]; rfl
      go_wp2
      go_meet
      exact ⟨1, true, rfl, rfl, by rw [HL.out]; rfl, by rw [HL.out]; rfl, by have := HLL.out; omega, rfl⟩
    · have q0 : ((((sl l)[0]'hk0).toNat : Int) == 45) = false := by rw [HC0.out]; exact char_ne (x := 45) (nat_ne (x := 45) (by omega) c45)
      go_wp2
      go_meet
      exact ⟨0, false, rfl, rfl, by rw [HL.out]; exact (off_ne c45).2, by rw [HL.out, (off_ne c45).1]; rfl, by omega, rfl⟩
  case rest =>
    obtain ⟨p, ng, rfl, rfl, hng, hdp, hpl, rfl⟩ := hcut
    obtain ⟨l1, hl1⟩ : ∃ l1, off 45 l = l1 := ⟨_, rfl⟩
    have hp := pNum_of l
    rw [hng, hl1] at hp
    rw [hl1] at hdp
    have hpL : p ≤ L := by rw [HLL.out]; exact hpl
    have hx1 := ext_from l p L HLL.out
    rw [hdp] at hx1
    have hl1p : l1.length + p = L := by have := congrArg List.length hdp; rw [List.length_drop, ← HLL.out] at this; omega
    have HL1 := hid (show l1.length ≤ 4096 by have := HS4.out; have := HLL.out; omega)
    have HP := hid hp
    have HDP := hid hdp
    have hR := rM_rel l1
    have hB := rM_bd l1
    clear hng hl1 hdp hpl hp
    rcases hM : rM l1 with _ | ⟨a, d, m1⟩
    · rw [hM] at hR
      have HR := hid hR
      have HM1 := hid hM
      clear hR hB hM hl1p
      go_wp2_with fail
      refine (HM.out l1 _ (by have := HL1.out; omega)).mono ?_
      rintro e w1 hm
      rw [HM1.out] at hm
      obtain ⟨⟨A1, n1, c1, A2, n2, c2, rfl⟩, hb⟩ := hm
      have HB1 := hid (show Below (zq w).heap.size (zq w) w1 from hb)
      clear hb
      go_wp2_with fail
      refine (HW.out _).mono ?_
      rintro e wf ⟨r, rfl, hr, hb2⟩
      have HBF := hid (show Below (zq w).heap.size (zq w) wf from (below_trans HB1.out hb2))
      obtain ⟨A1f, n1f, c1f, p1f, A2f, n2f, c2f, p2f, A3f, n3f, c3f, af, bf, df, rfl, -⟩ := hr.parts
      have HRF := hid hr
      obtain ⟨f0, f1, f2, f3, f4, y0, y1, y2, y3, y4⟩ := bx5 (zq_box HBF.out)
      clear hb2 hr
      go_wp2
      have NB : NumBox wf w.heap.size := .nilQ f0 f1 f2 f3 f4
      refine bodyPost_ret (v := .tuple #[.agg #[.bool p1f, .slice A1f n1f c1f, .bool p2f, .slice A2f n2f c2f, .slice A3f n3f c3f], .int .i64 2]) (by simp [results, Tryz.results13]; exact run_loadQe NB _ _ _ _ _ _) rfl ?_
      exact rq (v_none HS4.out (HP.out.trans (by rw [rel_none HR.out]; rfl))) (RetQE.box (zq_below HBF.out) (Nat.le_refl _) NB HRF.out _ _ _ _ _)
    rw [hM] at hR hB
    obtain ⟨hB1, hB2⟩ := hB _ _ _ rfl
    have SA := hid (bd4 HL1.out hB1)
    have SD := hid (bd4 HL1.out hB2)
    have HR := hid hR
    obtain ⟨hm0, hm1l⟩ := rel_pos hR
    have hmz : ((m1 : Int) == 0) = false := by simp; omega
    obtain ⟨r, hr⟩ : ∃ r, l1.drop m1 = r := ⟨_, rfl⟩
    obtain ⟨p1, hp1⟩ : ∃ x, x = p + m1 := ⟨_, rfl⟩
    have hr1 : (p : Int) + (m1 : Int) = (p1 : Int) := by omega
    have hdp1 : l.drop p1 = r := by rw [hp1, ← List.drop_drop, HDP.out, hr]
    have hp1L : p1 ≤ L := by omega
    have hlr : r.length + p1 = L := by have := congrArg List.length hdp1; rw [List.length_drop, ← HLL.out] at this; omega
    have HM1 := hid hM
    have HDR := hid hr
    have HDP1 := hid hdp1
    clear hR hB hM hl1p hB1 hB2 hm0 hm1l hr hp1 hdp1
    go_wp2_with fail
    refine (HM.out l1 _ (by have := HL1.out; omega)).mono ?_
    rintro e w1 hm
    rw [HM1.out] at hm
    obtain ⟨va, vd, rfl, hva, hvd, hb⟩ := hm
    obtain ⟨A1, n1, c1, rfl, -⟩ := hva.ex
    obtain ⟨A2, n2, c2, rfl, hn2⟩ := hvd.ex
    have HA := hid hva
    have HD := hid hvd
    have HN2 := hid hn2
    have HB1 := hid (show Below (zq w).heap.size (zq w) w1 from hb)
    clear hva hvd hb hn2
    rcases r with _ | ⟨c, t⟩
    · have hpl : ((p1 : Int) == (L : Int)) = true := by simp at hlr ⊢; omega
      obtain ⟨a0, b0, hn, h4, h5⟩ := num_one (ng := ng) (im := false) HR.out HDR.out rfl
      have HV := hid (v_one HS4.out (HP.out.trans hn) h4 h5)
      clear hlr hn h4 h5
      rcases Nat.eq_zero_or_pos d with d0 | d0
      · have hn2z := zn_of HN2.out d0
        have HD0 := hid d0
        clear d0
        go_wp2_with fail
        refine (HW.out _).mono ?_
        rintro e wf ⟨r, rfl, hr, hb2⟩
        have HBF := hid (show Below (zq w).heap.size (zq w) wf from (below_trans HB1.out hb2))
        obtain ⟨A1f, n1f, c1f, p1f, A2f, n2f, c2f, p2f, A3f, n3f, c3f, af, bf, df, rfl, -⟩ := hr.parts
        have HRF := hid hr
        obtain ⟨f0, f1, f2, f3, f4, y0, y1, y2, y3, y4⟩ := bx5 (zq_box HBF.out)
        clear hb2 hr
        go_wp2
        have NB : NumBox wf w.heap.size := .nilQ f0 f1 f2 f3 f4
        refine bodyPost_ret (v := .tuple #[.agg #[.bool p1f, .slice A1f n1f c1f, .bool p2f, .slice A2f n2f c2f, .slice A3f n3f c3f], .int .i64 3]) (by simp [results, Tryz.results13]; exact run_loadQe NB _ _ _ _ _ _) rfl ?_
        exact rq (HV.out.1 HD0.out) (RetQE.box (zq_below HBF.out) (Nat.le_refl _) NB HRF.out _ _ _ _ _)
      have hn2z := nz_of HN2.out d0
      have HD0 := hid d0
      clear d0
      go_wp2_with fail
      refine (rsgz_any ng _ a _ HA.out).mono ?_
      rintro e w2 ⟨vs, rfl, hvs, hb⟩
      have HS := hid hvs
      have HB2 := hid hb
      obtain ⟨A3, n3, c3, rfl, -, -⟩ := hvs.parts
      clear hvs hb
      go_wp2_with fail
      refine (rMake_any _ _ _ (sgz ng a) 0 d (ptV ⟨a, d, ng, false⟩) _ HS.out (IsRI.zero _ _ _) (HD.out.below HB2.out) HD0.out (pt_re a d ng HD0.out).1 (pt_re a d ng HD0.out).2 (by rw [sgz_wl]; have := SA.out; omega) (by simp [wl_zero]) (by have := SD.out; omega)).mono ?_
      rintro e wf ⟨r, rfl, hr, hb2⟩
      have HBF := hid (show Below (zq w).heap.size (zq w) wf from (below_trans (below_trans HB1.out HB2.out) hb2))
      obtain ⟨A1f, n1f, c1f, p1f, A2f, n2f, c2f, p2f, A3f, n3f, c3f, af, bf, df, rfl, -⟩ := hr.parts
      have HRF := hid hr
      obtain ⟨f0, f1, f2, f3, f4, y0, y1, y2, y3, y4⟩ := bx5 (zq_box HBF.out)
      clear hb2 hr
      go_wp2
      have NB : NumBox wf w.heap.size := .nilQ f0 f1 f2 f3 f4
      refine bodyPost_ret (v := .tuple #[.agg #[.bool p1f, .slice A1f n1f c1f, .bool p2f, .slice A2f n2f c2f, .slice A3f n3f c3f], .int .i64 0]) (by simp [results, Tryz.results13]; exact run_loadQe NB _ _ _ _ _ _) rfl ?_
      exact rq (HV.out.2 HD0.out) (RetQE.box (zq_below HBF.out) (Nat.le_refl _) NB HRF.out _ _ _ _ _)
    have hpl : ((p1 : Int) == (L : Int)) = false := by simp at hlr ⊢; omega
    have hx2 := ext_from l p1 L HLL.out
    rw [HDP1.out] at hx2
    have hi := i_list (c :: t)
    by_cases hi5 : c :: t = [105]
    · rw [decide_eq_true hi5] at hi
      obtain ⟨a0, b0, hn, h4, h5⟩ := num_one (ng := ng) (im := true) HR.out HDR.out hi5
      have HV := hid (v_one HS4.out (HP.out.trans hn) h4 h5)
      clear hlr hn h4 h5 hi5
      rcases Nat.eq_zero_or_pos d with d0 | d0
      · have hn2z := zn_of HN2.out d0
        have HD0 := hid d0
        clear d0
        go_wp2_with fail
        refine (HW.out _).mono ?_
        rintro e wf ⟨r, rfl, hr, hb2⟩
        have HBF := hid (show Below (zq w).heap.size (zq w) wf from (below_trans HB1.out hb2))
        obtain ⟨A1f, n1f, c1f, p1f, A2f, n2f, c2f, p2f, A3f, n3f, c3f, af, bf, df, rfl, -⟩ := hr.parts
        have HRF := hid hr
        obtain ⟨f0, f1, f2, f3, f4, y0, y1, y2, y3, y4⟩ := bx5 (zq_box HBF.out)
        clear hb2 hr
        go_wp2
        have NB : NumBox wf w.heap.size := .nilQ f0 f1 f2 f3 f4
        refine bodyPost_ret (v := .tuple #[.agg #[.bool p1f, .slice A1f n1f c1f, .bool p2f, .slice A2f n2f c2f, .slice A3f n3f c3f], .int .i64 3]) (by simp [results, Tryz.results13]; exact run_loadQe NB _ _ _ _ _ _) rfl ?_
        exact rq (HV.out.1 HD0.out) (RetQE.box (zq_below HBF.out) (Nat.le_refl _) NB HRF.out _ _ _ _ _)
      have hn2z := nz_of HN2.out d0
      have HD0 := hid d0
      clear d0
      go_wp2_with fail
      refine (rsgz_any ng _ a _ HA.out).mono ?_
      rintro e w2 ⟨vs, rfl, hvs, hb⟩
      have HS := hid hvs
      have HB2 := hid hb
      obtain ⟨A3, n3, c3, rfl, -, -⟩ := hvs.parts
      clear hvs hb
      go_wp2_with fail
      refine (rMake_any _ _ _ 0 (sgz ng a) d (ptV ⟨a, d, ng, true⟩) _ (IsRI.zero _ _ _) HS.out (HD.out.below HB2.out) HD0.out (pt_im a d ng HD0.out).1 (pt_im a d ng HD0.out).2 (by simp [wl_zero]) (by rw [sgz_wl]; have := SA.out; omega) (by have := SD.out; omega)).mono ?_
      rintro e wf ⟨r, rfl, hr, hb2⟩
      have HBF := hid (show Below (zq w).heap.size (zq w) wf from (below_trans (below_trans HB1.out HB2.out) hb2))
      obtain ⟨A1f, n1f, c1f, p1f, A2f, n2f, c2f, p2f, A3f, n3f, c3f, af, bf, df, rfl, -⟩ := hr.parts
      have HRF := hid hr
      obtain ⟨f0, f1, f2, f3, f4, y0, y1, y2, y3, y4⟩ := bx5 (zq_box HBF.out)
      clear hb2 hr
      go_wp2
      have NB : NumBox wf w.heap.size := .nilQ f0 f1 f2 f3 f4
      refine bodyPost_ret (v := .tuple #[.agg #[.bool p1f, .slice A1f n1f c1f, .bool p2f, .slice A2f n2f c2f, .slice A3f n3f c3f], .int .i64 0]) (by simp [results, Tryz.results13]; exact run_loadQe NB _ _ _ _ _ _) rfl ?_
      exact rq (HV.out.2 HD0.out) (RetQE.box (zq_below HBF.out) (Nat.le_refl _) NB HRF.out _ _ _ _ _)
    rw [decide_eq_false hi5] at hi
    obtain ⟨hkp, hcp⟩ := char_at HDP1.out
    have hlp : p1 < L := by rw [← hsz]; exact hkp
    have hlpi : (p1 : Int) < (L : Int) := by omega
    have HCP := hid hcp
    have HI5 := hid hi5
    clear hcp hi5
    by_cases hc : ¬ (c = 43 ∨ c = 45)
    · have q43 : ((((sl l)[p1]'hkp).toNat : Int) != 43) = true := by rw [HCP.out]; have := nat_ne (x := 43) (by omega) (fun e => hc (.inl e)); simp; omega
      have q45 : ((((sl l)[p1]'hkp).toNat : Int) != 45) = true := by rw [HCP.out]; have := nat_ne (x := 45) (by omega) (fun e => hc (.inr e)); simp; omega
      have HC := hid hc
      clear hc hlr
      go_wp2_with fail
      refine (HW.out _).mono ?_
      rintro e wf ⟨r, rfl, hr, hb2⟩
      have HBF := hid (show Below (zq w).heap.size (zq w) wf from (below_trans HB1.out hb2))
      obtain ⟨A1f, n1f, c1f, p1f, A2f, n2f, c2f, p2f, A3f, n3f, c3f, af, bf, df, rfl, -⟩ := hr.parts
      have HRF := hid hr
      obtain ⟨f0, f1, f2, f3, f4, y0, y1, y2, y3, y4⟩ := bx5 (zq_box HBF.out)
      clear hb2 hr
      go_wp2
      have NB : NumBox wf w.heap.size := .nilQ f0 f1 f2 f3 f4
      refine bodyPost_ret (v := .tuple #[.agg #[.bool p1f, .slice A1f n1f c1f, .bool p2f, .slice A2f n2f c2f, .slice A3f n3f c3f], .int .i64 2]) (by simp [results, Tryz.results13]; exact run_loadQe NB _ _ _ _ _ _) rfl ?_
      exact rq (v_none HS4.out (HP.out.trans (num_other HR.out HDR.out HI5.out (fun e => HC.out (.inl e)) (fun e => HC.out (.inr e))))) (RetQE.box (zq_below HBF.out) (Nat.le_refl _) NB HRF.out _ _ _ _ _)
    have HC := hid (show c = 43 ∨ c = 45 from Classical.not_not.1 hc)
    clear hc
    obtain ⟨dn, hdn⟩ : ∃ dn, isHd 45 (c :: t) = dn := ⟨_, rfl⟩
    have e45 : ((((sl l)[p1]'hkp).toNat : Int) == 45) = dn := by
      rw [HCP.out, ← hdn]
      rcases HC.out with h | h <;> subst h <;> rfl
    have HDN := hid hdn
    obtain ⟨p2, hp2⟩ : ∃ x, x = p1 + 1 := ⟨_, rfl⟩
    have hr2 : (p1 : Int) + 1 = (p2 : Int) := by omega
    have hdp2 : l.drop p2 = t := by rw [hp2, ← List.drop_drop, HDP1.out]; rfl
    have hx3 := ext_from l p2 L HLL.out
    rw [hdp2] at hx3
    have hp2L : p2 ≤ L := by omega
    have ht2 : t.length + p2 = L := by have := congrArg List.length hdp2; rw [List.length_drop, ← HLL.out] at this; omega
    have HL2 := hid (show t.length ≤ 4096 by have := HS4.out; have := HLL.out; omega)
    have HDP2 := hid hdp2
    clear hdp2 hp2 hlr hdn
    go_upto_region 17 with fail
    go_cut [79] from 70 to 78 (fun s wx => s = .bool false ∧ wx = w1)
    case first =>
      rcases HC.out with h | h
      · have q43 : ((((sl l)[p1]'hkp).toNat : Int) != 43) = false := by rw [HCP.out, h]; rfl
        clear h
        go_wp2
        go_meet
        exact ⟨rfl, rfl⟩
      · have q43 : ((((sl l)[p1]'hkp).toNat : Int) != 43) = true := by rw [HCP.out, h]; rfl
        have q45 : ((((sl l)[p1]'hkp).toNat : Int) != 45) = false := by rw [HCP.out, h]; rfl
        clear h
        go_wp2
        go_meet
        exact ⟨rfl, rfl⟩
    case rest =>
      obtain ⟨rfl, rfl⟩ := hcut
      have hR2 := rM_rel t
      have hBt := rM_bd t
      rcases hM2 : rM t with _ | ⟨b, e, m2⟩
      · rw [hM2] at hR2
        have HR2 := hid hR2
        have HM2 := hid hM2
        clear hR2 hBt hM2 ht2
        go_wp2_with fail
        refine (HM.out t _ (by have := HL2.out; omega)).mono ?_
        rintro ex w2 hm
        rw [HM2.out] at hm
        obtain ⟨⟨A3, n3, c3, A4, n4, c4, rfl⟩, hb⟩ := hm
        have HB2 := hid hb
        clear hb
        go_wp2_with fail
        refine (HW.out _).mono ?_
        rintro e wf ⟨r, rfl, hr, hb2⟩
        have HBF := hid (show Below (zq w).heap.size (zq w) wf from (below_trans (below_trans HB1.out HB2.out) hb2))
        obtain ⟨A1f, n1f, c1f, p1f, A2f, n2f, c2f, p2f, A3f, n3f, c3f, af, bf, df, rfl, -⟩ := hr.parts
        have HRF := hid hr
        obtain ⟨f0, f1, f2, f3, f4, y0, y1, y2, y3, y4⟩ := bx5 (zq_box HBF.out)
        clear hb2 hr
        go_wp2
        have NB : NumBox wf w.heap.size := .nilQ f0 f1 f2 f3 f4
        refine bodyPost_ret (v := .tuple #[.agg #[.bool p1f, .slice A1f n1f c1f, .bool p2f, .slice A2f n2f c2f, .slice A3f n3f c3f], .int .i64 2]) (by simp [results, Tryz.results13]; exact run_loadQe NB _ _ _ _ _ _) rfl ?_
        exact rq (v_none HS4.out (HP.out.trans (num_no HR.out HDR.out HC.out HR2.out))) (RetQE.box (zq_below HBF.out) (Nat.le_refl _) NB HRF.out _ _ _ _ _)
      rw [hM2] at hR2 hBt
      obtain ⟨hB3, hB4⟩ := hBt _ _ _ rfl
      have SB := hid (bd4 HL2.out hB3)
      have SE := hid (bd4 HL2.out hB4)
      have HR2 := hid hR2
      obtain ⟨hm2, hm2l⟩ := rel_pos hR2
      have hm2z : ((m2 : Int) == 0) = false := by simp; omega
      obtain ⟨r2, hr2d⟩ : ∃ r, t.drop m2 = r := ⟨_, rfl⟩
      obtain ⟨p3, hp3⟩ : ∃ x, x = p2 + m2 := ⟨_, rfl⟩
      have hr3 : (p2 : Int) + (m2 : Int) = (p3 : Int) := by omega
      have hdp3 : l.drop p3 = r2 := by rw [hp3, ← List.drop_drop, HDP2.out, hr2d]
      have hp3L : p3 ≤ L := by omega
      have hx4 := ext_from l p3 L HLL.out
      rw [hdp3] at hx4
      have hi2 := i_list r2
      have HM2 := hid hM2
      have HDR2 := hid hr2d
      clear hR2 hBt hM2 ht2 hB3 hB4 hm2 hm2l hr2d hp3 hdp3
      go_wp2_with fail
      refine (HM.out t _ (by have := HL2.out; omega)).mono ?_
      rintro ex w2 hm
      rw [HM2.out] at hm
      obtain ⟨vb, ve, rfl, hvb, hve, hb⟩ := hm
      obtain ⟨A3, n3, c3, rfl, -⟩ := hvb.ex
      obtain ⟨A4, n4, c4, rfl, hn4⟩ := hve.ex
      have HBB := hid hvb
      have HE := hid hve
      have HN4 := hid hn4
      have HB2 := hid hb
      clear hvb hve hb hn4
      by_cases hr5 : ¬ r2 = [105]
      · rw [decide_eq_false hr5] at hi2
        have HR5 := hid hr5
        clear hr5
        go_wp2_with fail
        refine (HW.out _).mono ?_
        rintro e wf ⟨r, rfl, hr, hb2⟩
        have HBF := hid (show Below (zq w).heap.size (zq w) wf from (below_trans (below_trans HB1.out HB2.out) hb2))
        obtain ⟨A1f, n1f, c1f, p1f, A2f, n2f, c2f, p2f, A3f, n3f, c3f, af, bf, df, rfl, -⟩ := hr.parts
        have HRF := hid hr
        obtain ⟨f0, f1, f2, f3, f4, y0, y1, y2, y3, y4⟩ := bx5 (zq_box HBF.out)
        clear hb2 hr
        go_wp2
        have NB : NumBox wf w.heap.size := .nilQ f0 f1 f2 f3 f4
        refine bodyPost_ret (v := .tuple #[.agg #[.bool p1f, .slice A1f n1f c1f, .bool p2f, .slice A2f n2f c2f, .slice A3f n3f c3f], .int .i64 2]) (by simp [results, Tryz.results13]; exact run_loadQe NB _ _ _ _ _ _) rfl ?_
        exact rq (v_none HS4.out (HP.out.trans (num_bad HR.out HDR.out HC.out HR2.out HDR2.out HR5.out))) (RetQE.box (zq_below HBF.out) (Nat.le_refl _) NB HRF.out _ _ _ _ _)
      replace hr5 := Classical.not_not.1 hr5
      rw [decide_eq_true hr5] at hi2
      obtain ⟨a0, b0, a2, b2, hn, h4, h5, k4, k5⟩ := num_two (ng := ng) HR.out HDR.out HC.out HR2.out (HDR2.out.trans hr5)
      rw [HDN.out] at hn
      have HV := hid (v_two HS4.out (HP.out.trans hn) h4 h5 k4 k5)
      clear hr5 hn h4 h5 k4 k5
      rcases Nat.eq_zero_or_pos d with d0 | d0
      · have hn2z := zn_of HN2.out d0
        have HD0 := hid d0
        clear d0
        go_wp2_with fail
        refine (HW.out _).mono ?_
        rintro e wf ⟨r, rfl, hr, hb2⟩
        have HBF := hid (show Below (zq w).heap.size (zq w) wf from (below_trans (below_trans HB1.out HB2.out) hb2))
        obtain ⟨A1f, n1f, c1f, p1f, A2f, n2f, c2f, p2f, A3f, n3f, c3f, af, bf, df, rfl, -⟩ := hr.parts
        have HRF := hid hr
        obtain ⟨f0, f1, f2, f3, f4, y0, y1, y2, y3, y4⟩ := bx5 (zq_box HBF.out)
        clear hb2 hr
        go_wp2
        have NB : NumBox wf w.heap.size := .nilQ f0 f1 f2 f3 f4
        refine bodyPost_ret (v := .tuple #[.agg #[.bool p1f, .slice A1f n1f c1f, .bool p2f, .slice A2f n2f c2f, .slice A3f n3f c3f], .int .i64 3]) (by simp [results, Tryz.results13]; exact run_loadQe NB _ _ _ _ _ _) rfl ?_
        exact rq (HV.out.1 HD0.out) (RetQE.box (zq_below HBF.out) (Nat.le_refl _) NB HRF.out _ _ _ _ _)
      have hn2z := nz_of HN2.out d0
      have HD0 := hid d0
      clear d0
      rcases Nat.eq_zero_or_pos e with e0 | e0
      · have hn4z := zn_of HN4.out e0
        have HE0 := hid e0
        clear e0
        go_wp2_with fail
        refine (HW.out _).mono ?_
        rintro e wf ⟨r, rfl, hr, hb2⟩
        have HBF := hid (show Below (zq w).heap.size (zq w) wf from (below_trans (below_trans HB1.out HB2.out) hb2))
        obtain ⟨A1f, n1f, c1f, p1f, A2f, n2f, c2f, p2f, A3f, n3f, c3f, af, bf, df, rfl, -⟩ := hr.parts
        have HRF := hid hr
        obtain ⟨f0, f1, f2, f3, f4, y0, y1, y2, y3, y4⟩ := bx5 (zq_box HBF.out)
        clear hb2 hr
        go_wp2
        have NB : NumBox wf w.heap.size := .nilQ f0 f1 f2 f3 f4
        refine bodyPost_ret (v := .tuple #[.agg #[.bool p1f, .slice A1f n1f c1f, .bool p2f, .slice A2f n2f c2f, .slice A3f n3f c3f], .int .i64 3]) (by simp [results, Tryz.results13]; exact run_loadQe NB _ _ _ _ _ _) rfl ?_
        exact rq (HV.out.2.1 HE0.out) (RetQE.box (zq_below HBF.out) (Nat.le_refl _) NB HRF.out _ _ _ _ _)
      have hn4z := nz_of HN4.out e0
      have HE0 := hid e0
      clear e0
      go_wp2_with fail
      refine (rsgz_any ng _ a _ (HA.out.below HB2.out)).mono ?_
      rintro ex w3 ⟨vs, rfl, hvs, hb⟩
      have HS := hid hvs
      have HB3 := hid hb
      obtain ⟨A5, n5, c5, rfl, -, -⟩ := hvs.parts
      clear hvs hb
      go_wp2_with fail
      refine (rMake_any _ _ _ (sgz ng a) 0 d (ptV ⟨a, d, ng, false⟩) _ HS.out (IsRI.zero _ _ _) (HD.out.below (below_trans HB2.out HB3.out)) HD0.out (pt_re a d ng HD0.out).1 (pt_re a d ng HD0.out).2 (by rw [sgz_wl]; have := SA.out; omega) (by simp [wl_zero]) (by have := SD.out; omega)).mono ?_
      rintro ex w4 ⟨vx, rfl, hvx, hb⟩
      have HX := hid hvx
      have HB4 := hid hb
      clear hvx hb
      go_wp2_with fail
      refine (rsgz_any dn _ b _ (HBB.out.below (below_trans HB3.out HB4.out))).mono ?_
      rintro ex w5 ⟨vs, rfl, hvs, hb⟩
      have HS2 := hid hvs
      have HB5 := hid hb
      obtain ⟨A6, n6, c6, rfl, -, -⟩ := hvs.parts
      clear hvs hb
      go_wp2_with fail
      refine (rMake_any _ _ _ 0 (sgz dn b) e (ptV ⟨b, e, dn, true⟩) _ (IsRI.zero _ _ _) HS2.out (HE.out.below (below_trans HB3.out (below_trans HB4.out HB5.out))) HE0.out (pt_im b e dn HE0.out).1 (pt_im b e dn HE0.out).2 (by simp [wl_zero]) (by rw [sgz_wl]; have := SB.out; omega) (by have := SE.out; omega)).mono ?_
      rintro ex w6 ⟨vy, rfl, hvy, hb⟩
      have HY := hid hvy
      have HB6 := hid hb
      clear hvy hb
      go_wp2_with fail
      refine (rAdd_any _ _ _ _ _ (HX.out.below (below_trans HB5.out HB6.out)) HY.out 20000 20000 (ptV_sz' a d _ _ HD0.out SA.out SD.out) (ptV_sz' b e _ _ HE0.out SB.out SE.out) (by omega)).mono ?_
      rintro e wf ⟨r, rfl, hr, hb2⟩
      have HBF := hid (show Below (zq w).heap.size (zq w) wf from (below_trans (below_trans HB1.out (below_trans HB2.out (below_trans HB3.out (below_trans HB4.out (below_trans HB5.out HB6.out))))) hb2))
      obtain ⟨A1f, n1f, c1f, p1f, A2f, n2f, c2f, p2f, A3f, n3f, c3f, af, bf, df, rfl, -⟩ := hr.parts
      have HRF := hid hr
      obtain ⟨f0, f1, f2, f3, f4, y0, y1, y2, y3, y4⟩ := bx5 (zq_box HBF.out)
      clear hb2 hr
      go_wp2
      have NB : NumBox wf w.heap.size := .nilQ f0 f1 f2 f3 f4
      refine bodyPost_ret (v := .tuple #[.agg #[.bool p1f, .slice A1f n1f c1f, .bool p2f, .slice A2f n2f c2f, .slice A3f n3f c3f], .int .i64 0]) (by simp [results, Tryz.results13]; exact run_loadQe NB _ _ _ _ _ _) rfl ?_
      exact rq (HV.out.2.2 HD0.out HE0.out) (RetQE.box (zq_below HBF.out) (Nat.le_refl _) NB HRF.out _ _ _ _ _)
theorem rparse_nil (w : World) : Calls Tryz.prog 13 #[.string (sl [])] w (RetQE w (pVal []) (pErr [])) := by
  have hsz : (sl []).size = 0 := rfl
  have hx1 : (sl []).extract 0 0 = sl [] := rfl
  have HM := hid (fun W => rmag_any [] W (by simp))
  have HW := hid (fun W => rWhole_any 0 W (by omega) (by omega))
  go_enter Tryz.func13, Tryz.ntmps13
  go_wp2_with fail
  refine (HM.out _).mono ?_
  rintro e w1 ⟨⟨A1, n1, c1, A2, n2, c2, rfl⟩, hb⟩
  have HB1 := hid (show Below (zq w).heap.size (zq w) w1 from hb)
  clear hb
  go_wp2_with fail
  refine (HW.out _).mono ?_
  rintro e wf ⟨r, rfl, hr, hb2⟩
  have HBF := hid (show Below (zq w).heap.size (zq w) wf from (below_trans HB1.out hb2))
  obtain ⟨A1f, n1f, c1f, p1f, A2f, n2f, c2f, p2f, A3f, n3f, c3f, af, bf, df, rfl, -⟩ := hr.parts
  have HRF := hid hr
  obtain ⟨f0, f1, f2, f3, f4, y0, y1, y2, y3, y4⟩ := bx5 (zq_box HBF.out)
  clear hb2 hr
  go_wp2
  have NB : NumBox wf w.heap.size := .nilQ f0 f1 f2 f3 f4
  refine bodyPost_ret (v := .tuple #[.agg #[.bool p1f, .slice A1f n1f c1f, .bool p2f, .slice A2f n2f c2f, .slice A3f n3f c3f], .int .i64 2]) (by simp [results, Tryz.results13]; exact run_loadQe NB _ _ _ _ _ _) rfl ?_
  exact rq (⟨rfl, rfl⟩) (RetQE.box (zq_below HBF.out) (Nat.le_refl _) NB HRF.out _ _ _ _ _)
theorem rparse_any (l : List UInt8) (w : World) (hs : l.length ≤ 1000000000) : Calls Tryz.prog 13 #[.string (sl l)] w (RetQE w (pVal l) (pErr l)) := by
  by_cases h : 4096 < l.length
  · have := rparse_long l w h hs
    unfold pVal pErr
    rw [if_pos h, if_pos h]
    exact this
  · rcases l with _ | ⟨c, tl⟩
    · exact rparse_nil w
    · exact rparse_main _ c tl w rfl (by omega)
end Go.Proofs.YtphlmmjlpbledaaGreatDoor
