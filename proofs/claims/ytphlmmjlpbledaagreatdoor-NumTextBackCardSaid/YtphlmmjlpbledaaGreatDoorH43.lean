import Derived.Test.YtphlmmjlpbledaaGreatDoorH26
import Derived.Test.YtphlmmjlpbledaaGreatDoorH28
import Derived.Test.YtphlmmjlpbledaaGreatDoorH29
import Derived.Test.YtphlmmjlpbledaaGreatDoorH41
import Derived.Test.YtphlmmjlpbledaaGreatDoorH42
set_option linter.unusedSimpArgs false
set_option linter.unusedVariables false
namespace Go.Proofs.YtphlmmjlpbledaaGreatDoor
open Go.RowKit
set_option maxRecDepth 100000
theorem rt_bts (p : Rat) : bts (rt p) = st p := by
  unfold rt rtext st mt bd
  rw [bts_app, bts_app]
  congr 1
  · split <;> rfl
  · congr 1
    split <;> rfl
theorem ct_bts (x : Cx) : bts (ctext x) = ct x := by
  unfold ctext ct
  split
  · exact rt_bts _
  · split
    · rw [bts_app, rt_bts]; rfl
    · split
      · rw [bts_app, bts_app, rt_bts, rt_bts]; rfl
      · rw [bts_app, bts_app, bts_app, rt_bts, rt_bts]; rfl
theorem text_data (x : Cx) : (strOfNums (ctext x)).data.toList = ct x := (strOfNums_data _).trans (ct_bts x)
theorem text_list (x : Cx) : (strOfNums (ctext x)).toList = ct x := by rw [ByteArray.toList_eq]; exact text_data x
theorem ct_inj {x y : Cx} (h : ct x = ct y) : x = y := by
  obtain ⟨ps, h1, -, h2⟩ := pNum_ct x
  obtain ⟨qs, h3, -, h4⟩ := pNum_ct y
  rw [h, h3] at h1
  cases h1
  rw [← h2, ← h4]
theorem rt_len {p : Rat} {m : Nat} (hx : Sz ⟨p, 0⟩ m) : (rt p).length ≤ 22 * m + 4 := by
  obtain ⟨s1, -, s2⟩ := hx _ _ _ (low_rat p)
  have h1 := nd_wl p.num.natAbs
  have h2 := nd_wl p.den
  have l1 : (dec p.num.natAbs).length = nd p.num.natAbs := by simp [dec]
  have l2 : (dec p.den).length = nd p.den := by simp [dec]
  unfold rt rtext
  split <;> split <;> simp [l1, l2] <;> omega
theorem ct_len {x : Cx} {m : Nat} (hx : Sz x m) : (ct x).length ≤ 44 * m + 10 := by
  have h1 := rt_len hx.real
  have h2 := rt_len hx.imag
  rw [← ct_bts]
  have : (bts (ctext x)).length = (ctext x).length := by simp [bts]
  rw [this]
  have e1 : (rt x.real.re).length = (rt x.re).length := rfl
  have e2 : (rt x.imag.re).length = (rt x.im).length := rfl
  unfold ctext
  split
  · show (rt x.re).length ≤ _; have : (rt x.re).length ≤ 22 * m + 4 := h1; omega
  · split
    · have : (rt x.im).length ≤ 22 * m + 4 := h2; simp; omega
    · have h3 : (rt x.im).length ≤ 22 * m + 4 := h2
      have h4 : (rt x.re).length ≤ 22 * m + 4 := h1
      split <;> simp <;> omega
theorem parse_text (x : Cx) (m : Nat) (w : World) (hx : Sz x m) (hm : m ≤ 90) (hT : Tab w) : Calls Tryz.prog 12 #[.string (strOfNums (ctext x))] w (RetNumE w x 0) := by
  have hl := ct_len hx
  have hs : (strOfNums (ctext x)).size ≤ 4000 := by rw [← size_data, text_data]; omega
  have h := parse_any (strOfNums (ctext x)) w (by omega) hT
  rw [text_data] at h
  obtain ⟨h1, h2⟩ := pErr_ct (x := x) (by omega)
  rw [h1, h2] at h
  exact h
theorem text_eq (x y : Cx) : ((strOfNums (ctext x)).toList == (strOfNums (ctext y)).toList) = decide (x = y) := by
  rw [text_list, text_list, Bool.eq_iff_iff]
  simp only [beq_iff_eq, decide_eq_true_eq]
  exact ⟨ct_inj, fun h => by rw [h]⟩
end Go.Proofs.YtphlmmjlpbledaaGreatDoor
