/- Walks of matrices of numbers: Solve, Inverse. -/
import Derived.Test.YtmlkpnfjgifgfaaGreatDoorG36
set_option linter.unusedSimpArgs false
set_option linter.unusedVariables false
namespace Go.Proofs.YtmlkpnfjgifgfaaGreatDoor
open Go.RowKit
set_option maxRecDepth 100000

/-- What a call that makes a row, or an error, leaves. -/
def RetRowE (w : World) (n : Nat) (f : Nat → Cx) (k : Int) (e : Ending) (w' : World) : Prop := ∃ g, e = .returned (.tuple #[.slice (some ⟨g, 0, none⟩) n n, .int .i64 k]) ∧ NBlk w' g n f ∧ w.heap.size ≤ g ∧ Below w.heap.size w w'
/-- F, and behind it column n, as far as row i. -/
def addC (F : Nat → Nat → Cx) (n : Nat) (f : Nat → Cx) (i : Nat) : Nat → Nat → Cx := fun a b => if b < n then F a b else if a < i then f a else .zero
theorem addC_next (F : Nat → Nat → Cx) (n i : Nat) (f : Nat → Cx) : ∀ a b, b < n + 1 → upm (addC F n f i) i n (f i) a b = addC F n f (i + 1) a b := fun a b hb => by
  unfold upm upf addC
  by_cases ha : a = i
  · subst ha
    rw [if_pos rfl]
    by_cases hbn : b = n
    · rw [if_pos hbn, if_neg (by omega), if_pos (by omega)]
    · rw [if_neg hbn, if_pos (by omega), if_pos (by omega)]
  · simp only [if_neg ha]
    by_cases hbn : b < n
    · rw [if_pos hbn, if_pos hbn]
    · rw [if_neg hbn, if_neg hbn]
      by_cases h : a < i
      · rw [if_pos h, if_pos (by omega)]
      · rw [if_neg h, if_neg (by omega)]
/-- F, and behind it the identity, as far as row i. -/
def addI (F : Nat → Nat → Cx) (n i : Nat) : Nat → Nat → Cx := fun a b => if b < n then F a b else if a < i then idF a (b - n) else .zero

set_option maxHeartbeats 8000000 in
theorem solveN_ok (w : World) (ga gb : Nat) (gi : Nat → Nat) (n s : Nat) (F : Nat → Nat → Cx) (f : Nat → Cx) (hA : MatAt w ga gi n n F) (hB : NBlk w gb n f) (hn : 0 < n) (hn1 : n ≤ 31) (hT : Tab w)
    (hS : ∀ a b, a < n → b < n → Sz (F a b) s) (hSf : ∀ a, a < n → Sz (f a) s) (hst : (elimS n n 0 F 0).1 = n) (h5 : szE s n + n * (szE s n + szX (szE s n) n + 2) + 5 * szE s n + szX (szE s n) n + 10 < 549755813888) :
    Calls Tryz.prog 15 #[.slice (some ⟨ga, 0, none⟩) n n, .slice (some ⟨gb, 0, none⟩) n n] w (RetRowE w n (solX (elimS n n 0 (addC F n f n) 0).2.2 n n) 0) := by
  have HA0 := Lib.hid hA
  have HB0 := Lib.hid hB
  have HT := Lib.hid hT
  have hn0 : ¬ (n = 0) := by omega
  have hs1 := (hS 0 0 hn hn).pos
  obtain ⟨G, hG⟩ : ∃ G, G = addC F n f n := ⟨_, rfl⟩
  have hSG : ∀ a b, a < n → b < n + 1 → Sz (G a b) s := fun a b ha hb => by
    rw [hG]
    unfold addC
    split
    · exact hS a b ha (by assumption)
    · first | exact hSf a ha | (rw [if_pos ha]; exact hSf a ha)
  have hGF : ∀ i j, j < n → F i j = G i j := fun i j hj => by rw [hG]; exact (if_pos hj).symm
  have hstG := (elimS_cols n n 0 F G 0 (by omega) hGF).1
  rw [hst] at hstG
  have hdg := elimS_diag n n 0 G 0 (by omega) hstG.symm
  have hsz := elimS_sz n (n + 1) s (by omega) n 0 G 0 (by omega) hSG
  have HSG := Lib.hid hSG
  rw [← hG]
  have HG := Lib.hid hG
  have HST := Lib.hid hstG.symm
  have HDG := Lib.hid hdg
  have HSZ := Lib.hid hsz
  clear hA hB hS hSf hT hst hSG hGF hstG hdg hsz hG
  have hsq := squareN_rect w ga gi n n F HA0.out hn (by omega) (by omega)
  have hdn : decide (n = n) = true := by simp
  rw [hdn] at hsq
  have HQ := Lib.hid hsq
  clear hsq hdn
  go_enter Tryz.func15, Tryz.ntmps15
  go_wp2_with fail
  refine HQ.out.mono ?_
  rintro e W1 ⟨rfl, hb1⟩
  have KB1 := Lib.hid hb1
  clear hb1
  go_wp2_with fail
  refine (widenedN_any W1 ga gi n n 1 F (HA0.out.below KB1.out) (by omega) (by omega)).mono ?_
  rintro e W2 ⟨go, g2, rfl, hM, hP, hb2⟩
  have KB2 := Lib.hid (below_trans KB1.out hb2)
  have HM2 := Lib.hid (show MatAt W2 go g2 n (n + 1) (addC F n f 0) from hM.congr fun a b _ hb => by
    unfold wideF cpyn addC
    by_cases h : b < n
    · rw [if_pos ⟨Nat.zero_le _, by omega⟩, if_pos h]; rfl
    · rw [if_neg (by omega), if_neg h, if_neg (by omega)])
  have HP := Lib.hid (show MatSep w.heap.size go g2 n from ⟨Nat.le_trans KB1.out.size hP.lo, fun i hi => Nat.le_trans KB1.out.size (hP.los i hi), hP.ne, hP.inj⟩)
  have hTB : 1 < w.heap.size := HT.out.1
  clear hM hP hb2 KB1 HQ
  go_wp2
  go_loopw [25] (fun j wr => ∃ i : Nat, j = .int .i64 i ∧ i ≤ n ∧ MatAt wr go g2 n (n + 1) (addC F n f i) ∧ Below w.heap.size w wr) (fun j _ => n - (intOf j).toNat)
  case atStart => exact ⟨0, rfl, by omega, HM2.out, KB2.out⟩
  case round =>
    clear HM2 KB2
    obtain ⟨i, rfl, hin, hM, hB⟩ := hrel
    have HM := Lib.hid hM
    have KB := Lib.hid hB
    have HBB := Lib.hid (HB0.out.below hB)
    clear hM hB
    by_cases hi : i < n
    · have hcell := HM.out.cell hi
      have hnn : n < n + 1 := by omega
      have hnn2 : (n : Int) < ((n + 1 : Nat) : Int) := by omega
      have hnn3 : (n : Int) < (n : Int) + 1 := by omega
      go_upto_region 7 with fail
      refine region_last [.val (kIs (.slice (some ⟨(g2 i), 0, none⟩) (n + 1) (n + 1))), .val (kIs (.slice (some ⟨ga, 0, none⟩) n n)), .val (kIs (.int .i64 (n : Int))), .val (kIs (.slice (some ⟨gb, 0, none⟩) n n)), .val (kIs (.int .i64 (i : Int))), .val (kIs (.pointer (some ⟨gb, 5 * i, none⟩))), .val (kNum (f i)), .val (kIs (.pointer (some ⟨(g2 i), 5 * n, none⟩)))]
        (by kernel_rfl) (by kernel_rfl) (by kernel_rfl) (by kernel_rfl) (by kernel_rfl) ⟨Stab.b (stab_is _), Stab.b (stab_is _), Stab.b (stab_is _), Stab.b (stab_is _), Stab.b (stab_is _), Stab.b (stab_is _), Stab.b (stab_num _), Stab.b (stab_is _), trivial⟩ (by simp) (ol := _) rfl (by kernel_rfl) ⟨?_, ?_, ?_, ?_, ?_, ?_, ?_, ?_, trivial⟩ ?_
      · intro ts W hb hB hp; intro K hK; simp only [fillT, Nat.zero_add, Nat.reduceAdd, List.setIfInBounds_toArray, List.set_cons_zero, List.set_cons_succ] at hK ⊢; have HK := Lib.hid hK; clear hK hp; refine ⟨?_⟩; go_simp; exact HK.out _ _ rfl (Below.refl _ _)
      · intro ts W hb hB hp; intro K hK; simp only [fillT, Nat.zero_add, Nat.reduceAdd, List.setIfInBounds_toArray, List.set_cons_zero, List.set_cons_succ] at hK ⊢; have HK := Lib.hid hK; clear hK hp; refine ⟨?_⟩; go_simp; exact HK.out _ _ rfl (Below.refl _ _)
      · intro ts W hb hB hp; have h1 : ts 1 = _ := hp 1 (by kernel_rfl); intro K hK; simp only [fillT, Nat.zero_add, Nat.reduceAdd, List.setIfInBounds_toArray, List.set_cons_zero, List.set_cons_succ, h1] at hK ⊢; have HK := Lib.hid hK; clear hK hp; refine ⟨?_⟩; go_simp; exact HK.out _ _ rfl (Below.refl _ _)
      · intro ts W hb hB hp; intro K hK; simp only [fillT, Nat.zero_add, Nat.reduceAdd, List.setIfInBounds_toArray, List.set_cons_zero, List.set_cons_succ] at hK ⊢; have HK := Lib.hid hK; clear hK hp; refine ⟨?_⟩; go_simp; exact HK.out _ _ rfl (Below.refl _ _)
      · intro ts W hb hB hp; intro K hK; simp only [fillT, Nat.zero_add, Nat.reduceAdd, List.setIfInBounds_toArray, List.set_cons_zero, List.set_cons_succ] at hK ⊢; have HK := Lib.hid hK; clear hK hp; refine ⟨?_⟩; go_simp; exact HK.out _ _ rfl (Below.refl _ _)
      · intro ts W hb hB hp; have h3 : ts 3 = _ := hp 3 (by kernel_rfl); have h4 : ts 4 = _ := hp 4 (by kernel_rfl); intro K hK; simp only [fillT, Nat.zero_add, Nat.reduceAdd, List.setIfInBounds_toArray, List.set_cons_zero, List.set_cons_succ, h3, h4] at hK ⊢; have HK := Lib.hid hK; clear hK hp; refine ⟨?_⟩; go_simp; exact HK.out _ _ (by simp [kIs, Nat.mul_comm]) (Below.refl _ _)
      · intro ts W hb hB hp; have h5 : ts 5 = _ := hp 5 (by kernel_rfl); intro K hK; simp only [fillT, Nat.zero_add, Nat.reduceAdd, List.setIfInBounds_toArray, List.set_cons_zero, List.set_cons_succ, h5] at hK ⊢; have HK := Lib.hid hK; clear hK hp; refine ⟨?_⟩; refine wp_load_elem rfl rfl (HBB.out.below hb) hi (fun v hv => HK.out _ _ (hv) (Below.refl _ _))
      · intro ts W hb hB hp; have h0 : ts 0 = _ := hp 0 (by kernel_rfl); have h2 : ts 2 = _ := hp 2 (by kernel_rfl); intro K hK; simp only [fillT, Nat.zero_add, Nat.reduceAdd, List.setIfInBounds_toArray, List.set_cons_zero, List.set_cons_succ, h0, h2] at hK ⊢; have HK := Lib.hid hK; clear hK hp; refine ⟨?_⟩; go_simp; exact HK.out _ _ (by simp [kIs, Nat.mul_comm]) (Below.refl _ _)
      intro ts W3 hb3 hh hap K hK
      have h6 := held_num (hh 6 (by simp)) rfl
      have e7 := held_is (hh 7 (by simp)) rfl
      have HK := Lib.hid hK
      clear hK hh hap
      simp only [fillT, Nat.zero_add, Nat.reduceAdd, List.setIfInBounds_toArray, List.set_cons_zero, List.set_cons_succ, e7]
      refine ⟨?_⟩
      refine wp_store_elem rfl (k := n) rfl rfl ((HM.out.row hi).below hb3) hnn h6 (fun W4 hbut hext hrow => HK.out _ _ ?_)
      clear e7 h6
      have M3 := ((HM.out.below hb3).set HP.out hi hbut hext hrow).congr fun a b _ hb => addC_next F n i f a b hb
      have M4 := Lib.hid M3
      have B4 := Lib.hid (hbut.below (below_trans KB.out hb3) (HP.out.los i hi))
      clear hbut hext hrow hb3 M3 HM KB hcell hnn2 hnn3
      go_wp2
      go_roundw
      case rel => exact ⟨i + 1, by go_num, by omega, M4.out, B4.out⟩
      case measure => simp [intOf]; omega
    · obtain rfl : i = n := by omega
      have HM4 := Lib.hid (show MatAt wr go g2 i (i + 1) G by rw [HG.out]; exact HM.out)
      go_wp2_with fail
      refine (eliminateN_any w.heap.size wr go g2 i (i + 1) s G HM4.out HP.out hTB (HT.out.below KB.out) (by omega) (by omega) HSG.out (by omega)).mono ?_
      rintro e W5 ⟨i4, rfl, hM, hP, hb⟩
      have HM5 := Lib.hid hM
      have KB5 := Lib.hid (KB.out.trans hb)
      have HST2 := HST.out
      clear hM hP hb
      have e1 : ((elimS i i 0 G 0).1 : Int) = (i : Int) := by rw [HST2]
      rw [e1]
      clear e1 HST2
      go_wp2_with fail
      refine (substituteN_any W5 go i4 i (i + 1) i (szE s i) (elimS i i 0 G 0).2.2 HM5.out (by omega) (by omega) (by omega) (HT.out.below KB5.out) HSZ.out (fun a ha => HDG.out a (by omega) ha) h5).mono ?_
      rintro e W6 ⟨gx, rfl, hN, hgx, hb⟩
      have HN := Lib.hid hN
      have KB6 := Lib.hid (below_trans KB5.out hb)
      have hgw : w.heap.size ≤ gx := Nat.le_trans KB5.out.size hgx
      clear hN hb hgx
      go_wp2
      go_ret2
      exact ⟨gx, rfl, HN.out, hgw, KB6.out⟩
end Go.Proofs.YtmlkpnfjgifgfaaGreatDoor
set_option linter.unusedSimpArgs false
set_option linter.unusedVariables false
namespace Go.Proofs.YtmlkpnfjgifgfaaGreatDoor
open Go.RowKit
set_option maxRecDepth 100000

/-- The inverse, as the program reckons it. -/
def invF (n : Nat) (F : Nat → Nat → Cx) : Nat → Nat → Cx := fun a b => solX (elimS n n 0 (addI F n n) 0).2.2 (n + b) n a
def RetInv (w : World) (n : Nat) (F : Nat → Nat → Cx) (e : Ending) (w' : World) : Prop :=
  if (elimS n n 0 F 0).1 = n then RetMatE w n n (invF n F) 0 e w' else e = .returned (.tuple #[.slice none 0 0, .int .i64 6]) ∧ Below w.heap.size w w'
theorem MatAt.setRow {B : Nat} {W W' : World} {go : Nat} {gi : Nat → Nat} {n m : Nat} {F : Nat → Nat → Cx} (h : MatAt W go gi n m F) (hs : MatSep B go gi n) {i : Nat} (hi : i < n) {f : Nat → Cx} (hb : But W W' (gi i)) (he : Ext W W') (hr : NBlk W' (gi i) m f) : MatAt W' go gi n m (upf F i f) := by
  obtain ⟨cs, h1, h2, h3, h4⟩ := h
  refine ⟨cs, (hb.other _ (Ne.symm (hs.ne i hi))).trans h1, h2, h3, fun j hj => ?_⟩
  by_cases hji : j = i
  · subst hji
    rw [upf_same]
    exact hr
  · rw [upf_other _ _ hji]
    exact (h4 j hj).but hb he fun e => hji (hs.inj j i hj hi e)
theorem addI_next (F : Nat → Nat → Cx) (n i : Nat) : ∀ a b, b < n + n → upf (addI F n i) i (cpyn (idF i) (addI F n i i) n n) a b = addI F n (i + 1) a b := fun a b hb => by
  unfold upf cpyn addI
  by_cases ha : a = i
  · subst ha
    rw [if_pos rfl]
    by_cases hbn : b < n
    · rw [if_neg (by omega), if_pos hbn, if_pos hbn]
    · rw [if_pos (by omega), if_neg hbn, if_pos (by omega)]
  · simp only [if_neg ha]
    by_cases hbn : b < n
    · rw [if_pos hbn, if_pos hbn]
    · rw [if_neg hbn, if_neg hbn]
      by_cases h : a < i
      · rw [if_pos h, if_pos (by omega)]
      · rw [if_neg h, if_neg (by omega)]
/-- Column by column. -/
def uptoC (Q : Nat → Nat → Cx) (i k : Nat) : Nat → Nat → Cx := fun a b => if b < k ∨ b = k ∧ a < i then Q a b else .zero
theorem uptoC_zero (Q : Nat → Nat → Cx) : (fun _ _ => Cx.zero) = uptoC Q 0 0 := by
  funext a b
  exact (if_neg (by omega)).symm
theorem uptoC_next (Q : Nat → Nat → Cx) (i k : Nat) : upm (uptoC Q i k) i k (Q i k) = uptoC Q (i + 1) k := by
  funext a b
  unfold upm upf uptoC
  by_cases ha : a = i
  · subst ha
    rw [if_pos rfl]
    by_cases hb : b = k
    · subst hb
      rw [if_pos rfl, if_pos (by omega)]
    · rw [if_neg hb]
      by_cases h : b < k
      · rw [if_pos (by omega), if_pos (by omega)]
      · rw [if_neg (by omega), if_neg (by omega)]
  · simp only [if_neg ha]
    by_cases h : b < k ∨ b = k ∧ a < i
    · rw [if_pos h, if_pos (by omega)]
    · rw [if_neg h, if_neg (by omega)]
theorem uptoC_shut (Q : Nat → Nat → Cx) (n k : Nat) : ∀ a b, a < n → uptoC Q n k a b = uptoC Q 0 (k + 1) a b := fun a b ha => by
  unfold uptoC
  by_cases h : b < k ∨ b = k ∧ a < n
  · rw [if_pos h, if_pos (by omega)]
  · rw [if_neg h, if_neg (by omega)]
theorem uptoC_all (Q : Nat → Nat → Cx) (n : Nat) : ∀ a b, b < n → uptoC Q 0 n a b = Q a b := fun a b hb => if_pos (by omega)

set_option maxHeartbeats 8000000 in
theorem inverseN_any (w : World) (ga : Nat) (gi : Nat → Nat) (n s : Nat) (F : Nat → Nat → Cx) (hA : MatAt w ga gi n n F) (hn : 0 < n) (hn1 : n ≤ 16) (hT : Tab w)
    (hS : ∀ a b, a < n → b < n → Sz (F a b) s) (h5 : szE s n + n * (szE s n + szX (szE s n) n + 2) + 5 * szE s n + szX (szE s n) n + 10 < 549755813888) :
    Calls Tryz.prog 9 #[.slice (some ⟨ga, 0, none⟩) n n] w (RetInv w n F) := by
  have HA0 := Lib.hid hA
  have HT := Lib.hid hT
  have hn0 : ¬ (n = 0) := by omega
  have hs1 := (hS 0 0 hn hn).pos
  obtain ⟨G, hG⟩ : ∃ G, G = addI F n n := ⟨_, rfl⟩
  have hSG : ∀ a b, a < n → b < n + n → Sz (G a b) s := fun a b ha hb => by
    rw [hG]
    unfold addI
    split
    · exact hS a b ha (by assumption)
    · try rw [if_pos ha]
      unfold idF
      split
      · exact Sz.int (by rw [show (1 : Int).natAbs = 1 from rfl, wl_one]; exact hs1) hs1
      · exact Sz.zero hs1
  have hGF : ∀ i j, j < n → F i j = G i j := fun i j hj => by rw [hG]; exact (if_pos hj).symm
  have hstG := (elimS_cols n n 0 F G 0 (by omega) hGF).1
  have hdg := elimS_diag n n 0 G 0 (by omega)
  have hsz := elimS_sz n (n + n) s (by omega) n 0 G 0 (by omega) hSG
  have hle := (elimS_ok n n 0 G 0 (by omega)).1
  obtain ⟨RR, hRR⟩ : ∃ RR, RR = (elimS n n 0 G 0).2.2 := ⟨_, rfl⟩
  have hinv : invF n F = fun a b => solX RR (n + b) n a := by rw [hRR, hG]; rfl
  have HI := Lib.hid (fun e w' => show RetInv w n F e w' = (if (elimS n n 0 G 0).1 = n then RetMatE w n n (fun a b => solX RR (n + b) n a) 0 e w' else e = .returned (.tuple #[.slice none 0 0, .int .i64 6]) ∧ Below w.heap.size w w') by unfold RetInv; rw [hinv, hstG])
  have HSG := Lib.hid hSG
  have HG := Lib.hid hG
  have HLE := Lib.hid hle
  have HDG := Lib.hid hdg
  have HSZ := Lib.hid hsz
  have HRR := Lib.hid hRR
  clear hA hS hT hSG hGF hstG hdg hsz hG hinv hle hRR
  have hsq := squareN_rect w ga gi n n F HA0.out hn (by omega) (by omega)
  have hdn : decide (n = n) = true := by simp
  rw [hdn] at hsq
  have HQ := Lib.hid hsq
  clear hsq hdn
  go_enter Tryz.func9, Tryz.ntmps9
  go_wp2_with fail
  refine HQ.out.mono ?_
  rintro e W1 ⟨rfl, hb1⟩
  have KB1 := Lib.hid hb1
  clear hb1
  go_wp2_with fail
  refine (widenedN_any W1 ga gi n n n F (HA0.out.below KB1.out) (by omega) (by omega)).mono ?_
  rintro e W2 ⟨go, g2, rfl, hM, hP, hb2⟩
  have KB2 := Lib.hid (below_trans KB1.out hb2)
  have HM2 := Lib.hid (show MatAt W2 go g2 n (n + n) (addI F n 0) from hM.congr fun a b _ hb => by
    unfold wideF cpyn addI
    by_cases h : b < n
    · rw [if_pos ⟨Nat.zero_le _, by omega⟩, if_pos h]; rfl
    · rw [if_neg (by omega), if_neg h, if_neg (by omega)])
  have HP := Lib.hid (show MatSep w.heap.size go g2 n from ⟨Nat.le_trans KB1.out.size hP.lo, fun i hi => Nat.le_trans KB1.out.size (hP.los i hi), hP.ne, hP.inj⟩)
  have hTB : 1 < w.heap.size := HT.out.1
  clear hM hP hb2 KB1 HQ
  go_wp2_with fail
  refine (identityN_any W2 n (by omega)).mono ?_
  rintro e W3 ⟨gI, iI, rfl, hM, hP, hb3⟩
  have KB3 := Lib.hid (below_trans KB2.out hb3)
  have HI3 := Lib.hid hM
  have HM3 := Lib.hid (HM2.out.below hb3)
  have HNE := Lib.hid (show (∀ i, i < n → gI ≠ g2 i) ∧ ∀ i a, i < n → a < n → iI a ≠ g2 i from ⟨fun i hi => by have := (HM2.out.row hi).lt; have := hP.lo; omega, fun i a hi ha => by have := (HM2.out.row hi).lt; have := hP.los a ha; omega⟩)
  clear hM hP hb3 KB2 HM2
  go_wp2
  go_loopw [25] (fun j wr => ∃ i : Nat, j = .int .i64 i ∧ i ≤ n ∧ MatAt wr go g2 n (n + n) (addI F n i) ∧ MatAt wr gI iI n n idF ∧ Below w.heap.size w wr) (fun j _ => n - (intOf j).toNat)
  case atStart => exact ⟨0, rfl, by omega, HM3.out, HI3.out, KB3.out⟩
  case round =>
    clear HM3 HI3 KB3
    obtain ⟨i, rfl, hin, hM, hId, hB⟩ := hrel
    have HM := Lib.hid hM
    have HId := Lib.hid hId
    have KB := Lib.hid hB
    clear hM hB hId
    by_cases hi : i < n
    · have hcell := HM.out.cell hi
      have hcelI := HId.out.cell hi
      obtain ⟨W4, hr4, hB4, hE4, hN4⟩ := copy_num wr 3 (g2 i) (iI i) (n + n) n n n n n _ _ (HId.out.row hi) (HM.out.row hi) rfl (Nat.le_refl _)
      rw [Nat.mul_comm 5 n] at hr4
      have M4 := Lib.hid ((HM.out.setRow HP.out hi hB4 hE4 hN4).congr fun a b _ hb => addI_next F n i a b hb)
      have I4 := Lib.hid (HId.out.butBox hB4 hE4 (HNE.out.1 i hi) fun a ha => HNE.out.2 i a hi ha)
      have B4 := Lib.hid (hB4.below KB.out (HP.out.los i hi))
      clear hB4 hE4 hN4 HM HId KB
      go_wp2
      go_roundw
      case rel => exact ⟨i + 1, by go_num, by omega, M4.out, I4.out, B4.out⟩
      case measure => simp [intOf]; omega
    · obtain rfl : i = n := by omega
      have HM4 := Lib.hid (show MatAt wr go g2 i (i + i) G by rw [HG.out]; exact HM.out)
      clear HM HId
      go_wp2_with fail
      refine (eliminateN_any w.heap.size wr go g2 i (i + i) s G HM4.out HP.out hTB (HT.out.below KB.out) (by omega) (by omega) HSG.out (by omega)).mono ?_
      rintro e W5 ⟨i4, rfl, hM, hP, hb⟩
      rw [← HRR.out] at hM
      have HM5 := Lib.hid hM
      have KB5 := Lib.hid (KB.out.trans hb)
      clear hM hP hb KB HM4
      by_cases hst : (elimS i i 0 G 0).1 = i
      · have HE := Lib.hid (fun e w' => (HI.out e w').trans (if_pos hst))
        have HDG2 := Lib.hid (fun a ha => HDG.out hst a (Nat.zero_le _) ha)
        rw [← HRR.out] at HDG2 HSZ
        have e1 : ((elimS i i 0 G 0).1 : Int) = (i : Int) := by rw [hst]
        rw [e1]
        clear e1 hst HI HDG
        go_wp2_with fail
        refine (blankN_any W5 i i (by omega) (by omega)).mono ?_
        rintro e W6 ⟨gm, im, rfl, hM, hP, hb⟩
        have KB6 := Lib.hid (below_trans KB5.out hb)
        have H56 := Lib.hid (HM5.out.below hb)
        have HO := Lib.hid hM
        have HPO := Lib.hid (show MatSep w.heap.size gm im i from ⟨Nat.le_trans KB5.out.size hP.lo, fun a ha => Nat.le_trans KB5.out.size (hP.los a ha), hP.ne, hP.inj⟩)
        have HNE2 := Lib.hid (show go ≠ gm ∧ ∀ a b, a < i → b < i → i4 a ≠ im b from ⟨fun e => by have := HM5.out.lt; have := hP.lo; omega, fun a b ha hb => by have := (HM5.out.row ha).lt; have := hP.los b hb; omega⟩)
        have HNE3 := Lib.hid (show ∀ a, a < i → go ≠ im a from fun a ha => by have := HM5.out.lt; have := hP.los a ha; omega)
        clear hM hP hb KB5 HM5
        obtain ⟨n, hni⟩ : ∃ n, n = i := ⟨_, rfl⟩
        subst hni
        go_wp2
        go_loopw [51] (fun j wr => ∃ k : Nat, j = .int .i64 k ∧ k ≤ n ∧ MatAt wr gm im n n (uptoC (fun a b => solX RR (n + b) n a) 0 k) ∧ MatAt wr go i4 n (n + n) RR ∧ Below w.heap.size w wr) (fun j _ => n - (intOf j).toNat)
        case atStart => exact ⟨0, rfl, by omega, by rw [← uptoC_zero]; exact HO.out, H56.out, KB6.out⟩
        case round =>
          clear HO H56 KB6
          rename_i wr1
          obtain ⟨k, rfl, hkn, hM, hR, hB⟩ := hrel
          have HM := Lib.hid hM
          have HR := Lib.hid hR
          have KB := Lib.hid hB
          clear hM hR hB
          by_cases hk : k < n
          · have hr1 : (n : Int) + (k : Int) < 32 := by omega
            go_wp2_with fail
            refine (substituteN_any wr go i4 n (n + n) (n + k) (szE s n) RR HR.out (by omega) (by omega) (by omega) (HT.out.below KB.out) HSZ.out HDG2.out h5).mono ?_
            rintro e W7 ⟨gx, rfl, hN, hgx, hb⟩
            have HX0 := Lib.hid hN
            have KB7 := Lib.hid (below_trans KB.out hb)
            have HM7 := Lib.hid (HM.out.below hb)
            have HR7 := Lib.hid (HR.out.below hb)
            have hxm : ∀ a, a < n → gx ≠ im a := fun a ha => by have := (HM.out.row ha).lt; omega
            clear hN hb hgx HM HR KB
            go_wp2
            go_loopw [60] (fun j wr => ∃ i : Nat, j = .int .i64 i ∧ i ≤ n ∧ MatAt wr gm im n n (uptoC (fun a b => solX RR (n + b) n a) i k) ∧ MatAt wr go i4 n (n + n) RR ∧ NBlk wr gx n (solX RR (n + k) n) ∧ Below w.heap.size w wr) (fun j _ => n - (intOf j).toNat)
            case atStart => exact ⟨0, rfl, by omega, HM7.out, HR7.out, HX0.out, KB7.out⟩
            case round =>
              clear HM7 HR7 HX0 KB7
              rename_i wr2
              obtain ⟨i, rfl, hin, hM, hR, hN, hB⟩ := hrel
              have HM0 := Lib.hid hM
              have HR := Lib.hid hR
              have HX := Lib.hid hN
              have KB := Lib.hid hB
              clear hM hR hB hN
              by_cases hi : i < n
              · go_upto_region 19 with fail
                refine region_lin [.val (kIs (.int .i64 (i : Int))), .val (kIs (.pointer (some ⟨gx, 5 * i, none⟩))), .val (kNum (solX RR (n + k) n i)), .box 30 zNum, .val (kIs (.int .i64 (i : Int))), .put 3 2]
                  (by kernel_rfl) (by kernel_rfl) (by kernel_rfl) (by kernel_rfl) (by kernel_rfl) ⟨stab_is _, stab_is _, stab_num _, stab_is _, trivial⟩ (by simp) ⟨?_, ?_, ?_, alloc_num, ?_, store_num _, trivial⟩ ?_
                · intro ts W hb hB hp; intro K hK; simp only [fillT, Nat.zero_add, Nat.reduceAdd, List.setIfInBounds_toArray, List.set_cons_zero, List.set_cons_succ] at hK ⊢; have HK := Lib.hid hK; clear hK hp; refine ⟨?_⟩; go_simp; exact HK.out _ _ rfl (Below.refl _ _)
                · intro ts W hb hB hp; intro K hK; simp only [fillT, Nat.zero_add, Nat.reduceAdd, List.setIfInBounds_toArray, List.set_cons_zero, List.set_cons_succ] at hK ⊢; have HK := Lib.hid hK; clear hK hp; refine ⟨?_⟩; go_simp; exact HK.out _ _ (by simp [kIs, Nat.mul_comm]) (Below.refl _ _)
                · intro ts W hb hB hp; have h1 : ts 1 = _ := hp 1 (by kernel_rfl); intro K hK; simp only [fillT, Nat.zero_add, Nat.reduceAdd, List.setIfInBounds_toArray, List.set_cons_zero, List.set_cons_succ, h1] at hK ⊢; have HK := Lib.hid hK; clear hK hp; refine ⟨?_⟩; refine wp_load_elem rfl rfl (HX.out.below hb) hi (fun v hv => HK.out _ _ (hv) (Below.refl _ _))
                · intro ts W hb hB hp; have h0 : ts 0 = _ := hp 0 (by kernel_rfl); intro K hK; simp only [fillT, Nat.zero_add, Nat.reduceAdd, List.setIfInBounds_toArray, List.set_cons_zero, List.set_cons_succ, h0] at hK ⊢; have HK := Lib.hid hK; clear hK hp; refine ⟨?_⟩; go_simp; exact HK.out _ _ rfl (Below.refl _ _)
                intro ts W8 hb8 hh hap
                have e4 := held_is (hh 4 (by simp)) rfl
                obtain ⟨g7, A7, n7, c7, p7, A7b, n7b, c7b, p7b, A7c, n7c, c7c, e3, lo7, z7, X7, N7⟩ := held_box (x := solX RR (n + k) n i) (hh 3 (by simp)) rfl (hh 5 (by simp)) rfl (hh 2 (by simp)) rfl
                simp only [fillT, Nat.zero_add, Nat.reduceAdd, List.setIfInBounds_toArray, List.set_cons_zero, List.set_cons_succ, e4, e3]
                clear hh hap e4 e3
                generalize ts 0 = u0_W8 at *
                generalize ts 1 = u1_W8 at *
                generalize ts 2 = u2_W8 at *
                clear ts
                have HM := Lib.hid (HM0.out.below hb8)
                have HR2 := Lib.hid (HR.out.below hb8)
                have HX2 := Lib.hid (HX.out.below hb8)
                have KB2 := Lib.hid (below_trans KB.out hb8)
                clear hb8 lo7 HM0 HR HX KB
                go_upto_region 20 with fail
                refine region_last [.val (kIs (.slice (some ⟨gm, 0, none⟩) n n)), .val (kIs (.int .i64 (i : Int))), .val (kIs (.pointer (some ⟨gm, i, none⟩))), .val (kIs (.slice (some ⟨im i, 0, none⟩) n n)), .val (kIs (.int .i64 (k : Int))), .val (kIs (.agg #[.slice A7 n7 c7, .bool p7, .slice A7b n7b c7b, .bool p7b, .slice A7c n7c c7c])), .val (kIs (.pointer (some ⟨(im i), 5 * k, none⟩)))]
                  (by kernel_rfl) (by kernel_rfl) (by kernel_rfl) (by kernel_rfl) (by kernel_rfl) ⟨Stab.b (stab_is _), Stab.b (stab_is _), Stab.b (stab_is _), Stab.b (stab_is _), Stab.b (stab_is _), Stab.b (stab_is _), Stab.b (stab_is _), trivial⟩ (by simp) (ol := _) rfl (by kernel_rfl) ⟨?_, ?_, ?_, ?_, ?_, ?_, ?_, trivial⟩ ?_
                · intro ts W hb hB hp; intro K hK; simp only [fillT, Nat.zero_add, Nat.reduceAdd, List.setIfInBounds_toArray, List.set_cons_zero, List.set_cons_succ] at hK ⊢; have HK := Lib.hid hK; clear hK hp; refine ⟨?_⟩; go_simp; exact HK.out _ _ rfl (Below.refl _ _)
                · intro ts W hb hB hp; intro K hK; simp only [fillT, Nat.zero_add, Nat.reduceAdd, List.setIfInBounds_toArray, List.set_cons_zero, List.set_cons_succ] at hK ⊢; have HK := Lib.hid hK; clear hK hp; refine ⟨?_⟩; go_simp; exact HK.out _ _ rfl (Below.refl _ _)
                · intro ts W hb hB hp; have h0 : ts 0 = _ := hp 0 (by kernel_rfl); have h1 : ts 1 = _ := hp 1 (by kernel_rfl); intro K hK; simp only [fillT, Nat.zero_add, Nat.reduceAdd, List.setIfInBounds_toArray, List.set_cons_zero, List.set_cons_succ, h0, h1] at hK ⊢; have HK := Lib.hid hK; clear hK hp; refine ⟨?_⟩; go_simp; exact HK.out _ _ rfl (Below.refl _ _)
                · intro ts W hb hB hp; have h2 : ts 2 = _ := hp 2 (by kernel_rfl); intro K hK; simp only [fillT, Nat.zero_add, Nat.reduceAdd, List.setIfInBounds_toArray, List.set_cons_zero, List.set_cons_succ, h2] at hK ⊢; have HK := Lib.hid hK; clear hK hp; have hcell := (HM.out.below hb).cell hi; refine ⟨?_⟩; go_simp; exact HK.out _ _ rfl (Below.refl _ _)
                · intro ts W hb hB hp; intro K hK; simp only [fillT, Nat.zero_add, Nat.reduceAdd, List.setIfInBounds_toArray, List.set_cons_zero, List.set_cons_succ] at hK ⊢; have HK := Lib.hid hK; clear hK hp; refine ⟨?_⟩; go_simp; exact HK.out _ _ rfl (Below.refl _ _)
                · intro ts W hb hB hp; intro K hK; simp only [fillT, Nat.zero_add, Nat.reduceAdd, List.setIfInBounds_toArray, List.set_cons_zero, List.set_cons_succ] at hK ⊢; refine ⟨?_⟩; refine wp_load_row _ _ rfl (g7) rfl _ _ (0, 0) _ ((hb.block _ (z7)).trans X7) Tryz.underlying30 rfl (by kernel_rfl) ?_; exact hK _ _ rfl (Below.refl _ _)
                · intro ts W hb hB hp; have h3 : ts 3 = _ := hp 3 (by kernel_rfl); have h4 : ts 4 = _ := hp 4 (by kernel_rfl); intro K hK; simp only [fillT, Nat.zero_add, Nat.reduceAdd, List.setIfInBounds_toArray, List.set_cons_zero, List.set_cons_succ, h3, h4] at hK ⊢; have HK := Lib.hid hK; clear hK hp; refine ⟨?_⟩; go_simp; exact HK.out _ _ (by simp [kIs, Nat.mul_comm]) (Below.refl _ _)
                intro ts W3 hb3 hh hap K hK
                have e5 := held_is (hh 5 (by simp)) rfl
                have e6 := held_is (hh 6 (by simp)) rfl
                have HK := Lib.hid hK
                clear hK hh hap
                simp only [fillT, Nat.zero_add, Nat.reduceAdd, List.setIfInBounds_toArray, List.set_cons_zero, List.set_cons_succ, e5, e6]
                refine ⟨?_⟩
                refine wp_store_elem rfl (k := k) rfl rfl ((HM.out.row hi).below hb3) hk (N7.below hb3) (fun W4 hbut hext hrow => HK.out _ _ ?_)
                have M3 := (HM.out.below hb3).set HPO.out hi hbut hext hrow
                have e7 : solX RR (n + k) n i = (fun a b => solX RR (n + b) n a) i k := rfl
                rw [e7, uptoC_next] at M3
                have M4 := Lib.hid M3
                have R4 := Lib.hid ((HR2.out.below hb3).butBox hbut hext (HNE3.out i hi) fun a ha => HNE2.out.2 a i ha hi)
                have X4 := Lib.hid ((HX2.out.below hb3).but hbut hext (hxm i hi))
                have B4 := Lib.hid (hbut.below (below_trans KB2.out hb3) (HPO.out.los i hi))
                clear hbut hext hrow e5 e6 e7 X7 N7 z7 hb3 M3 HM HR2 HX2 KB2
                go_wp2
                go_roundw
                case rel => exact ⟨i + 1, by go_num, by omega, M4.out, R4.out, X4.out, B4.out⟩
                case measure => simp [intOf]; omega
              · obtain rfl : i = n := by omega
                have HM8 := Lib.hid (HM0.out.congr (F' := uptoC (fun a b => solX RR (i + b) i a) 0 (k + 1)) fun a b ha _ => uptoC_shut _ i k a b ha)
                clear HM0
                go_wp2
                go_roundw
                case rel => exact ⟨k + 1, by go_num, by omega, HM8.out, HR.out, KB.out⟩
                case measure => simp [intOf]; omega
          · obtain rfl : k = n := by omega
            have HM8 := Lib.hid (HM.out.congr (F' := fun a b => solX RR (k + b) k a) fun a b _ hb => uptoC_all _ k a b hb)
            go_wp2
            go_ret2
            rw [HE.out]
            exact ⟨_, _, rfl, HM8.out, HPO.out, KB.out⟩
      · have HE := Lib.hid (fun e w' => (HI.out e w').trans (if_neg hst))
        have hlt : ((elimS i i 0 G 0).1 : Int) < (i : Int) := by have := HLE.out; omega
        clear hst
        go_wp2
        go_ret2
        rw [HE.out]
        exact ⟨rfl, KB5.out⟩
end Go.Proofs.YtmlkpnfjgifgfaaGreatDoor
