import Derived.Test.YtphlmmjlpbledaaGreatDoorH33
set_option linter.unusedSimpArgs false
set_option linter.unusedVariables false
namespace Go.Proofs.YtphlmmjlpbledaaGreatDoor
open Go.RowKit
set_option maxRecDepth 100000
def RetExp (w : World) (g : Nat) (s : ByteArray) (l : List UInt8) (e : Ending) (w' : World) : Prop :=
  ∃ v : Int, e = .returned (.tuple #[.int .i64 v, .bool (pExpOk l)]) ∧ (pExpOk l = true → v = pExpV l ∧ RdL w' g s (pExpR l)) ∧ w.grownBy w' (some g)
theorem exp_bad (g : Nat) (s : ByteArray) (l : List UInt8) (w : World) (h : RdL w g s l) (hs : s.size ≤ 1000000) (hq : okW (digs (off 45 l)) = false) :
    Calls Tryz.prog 170 #[.pointer (some ⟨g, 0, none⟩)] w (RetExp w g s l) := by
  have HT := Lib.hid (take_any g s 45 l w h hs)
  have HW := Lib.hid (fun W (h : RdL W g s (off 45 l)) => whole_any g s _ W h hs)
  have H1 := Lib.hid (show pExpOk l = false by simp [pExpOk, hq])
  rw [hq] at HW
  clear h hs hq
  go_enter Tryz.func170, Tryz.ntmps170
  go_wp2_with fail
  refine HT.out.mono ?_
  rintro e w2 ⟨rfl, hr, hg⟩
  have HG := Lib.hid hg
  clear hg
  go_wp2_with fail
  refine (HW.out _ hr).mono ?_
  rintro e w3 ⟨rfl, hr3, hg3⟩
  have HG3 := Lib.hid hg3
  clear hg3
  go_wp2
  go_ret2
  exact ⟨0, by rw [H1.out]; rfl, (fun h => absurd h (by rw [H1.out]; decide)), grown_trans HG.out HG3.out⟩
theorem exp_long (g : Nat) (s : ByteArray) (l : List UInt8) (w : World) (h : RdL w g s l) (hs : s.size ≤ 1000000) (hq : okW (digs (off 45 l)) = true) (hn : ¬ (digs (off 45 l)).length ≤ 3) :
    Calls Tryz.prog 170 #[.pointer (some ⟨g, 0, none⟩)] w (RetExp w g s l) := by
  have HT := Lib.hid (take_any g s 45 l w h hs)
  have HW := Lib.hid (fun W (h : RdL W g s (off 45 l)) => whole_any g s _ W h hs)
  have H1 := Lib.hid (show pExpOk l = false by simp [pExpOk, hn])
  have hsz := sl_size (digs (off 45 l))
  have hgt : (3 : Int) < ((digs (off 45 l)).length : Int) := by omega
  rw [hq] at HW
  clear h hs hq hn
  generalize (digs (off 45 l)).length = n at *
  go_enter Tryz.func170, Tryz.ntmps170
  go_wp2_with fail
  refine HT.out.mono ?_
  rintro e w2 ⟨rfl, hr, hg⟩
  have HG := Lib.hid hg
  clear hg
  go_wp2_with fail
  refine (HW.out _ hr).mono ?_
  rintro e w3 ⟨rfl, hr3, hg3⟩
  have HG3 := Lib.hid hg3
  clear hg3
  go_wp2
  go_ret2
  exact ⟨0, by rw [H1.out]; rfl, (fun h => absurd h (by rw [H1.out]; decide)), grown_trans HG.out HG3.out⟩
theorem exp_good (g : Nat) (s : ByteArray) (l : List UInt8) (w : World) (h : RdL w g s l) (hs : s.size ≤ 1000000) (hq : okW (digs (off 45 l)) = true) (hn : (digs (off 45 l)).length ≤ 3) :
    Calls Tryz.prog 170 #[.pointer (some ⟨g, 0, none⟩)] w (RetExp w g s l) := by
  have HT := Lib.hid (take_any g s 45 l w h hs)
  have HW := Lib.hid (fun W (h : RdL W g s (off 45 l)) => whole_any g s _ W h hs)
  have H1 := Lib.hid (show pExpOk l = decide (dval (digs (off 45 l)) ≤ 400) by simp [pExpOk, hq, hn])
  have H2 := Lib.hid (show pExpV l = if isHd 45 l then -(dval (digs (off 45 l)) : Int) else (dval (digs (off 45 l)) : Int) from rfl)
  have H3 := Lib.hid (show pExpR l = past (off 45 l) from rfl)
  have hsz := sl_size (digs (off 45 l))
  have HCD := Lib.hid (digs_mem (l := off 45 l))
  rw [hq] at HW
  clear h hs hq
  generalize past (off 45 l) = r at *
  generalize digs (off 45 l) = C at *
  obtain ⟨k, hk⟩ : ∃ k, k = C.length := ⟨_, rfl⟩
  rw [← hk] at hsz hn
  have HC := Lib.hid hk
  clear hk
  go_enter Tryz.func170, Tryz.ntmps170
  go_wp2_with fail
  refine HT.out.mono ?_
  rintro e w2 ⟨rfl, hr, hg⟩
  have HG := Lib.hid hg
  clear hg
  go_wp2_with fail
  refine (HW.out _ hr).mono ?_
  rintro e w3 ⟨rfl, hr3, hg3⟩
  have HG3 := Lib.hid hg3
  have HR3 := Lib.hid hr3
  clear hg3 hr hr3
  obtain ⟨w4, c4, hcv, hcl, hb4, hs4⟩ := bytes_run w3 (sl C)
  have HCL := Lib.hid hcl
  have HG4 := Lib.hid (grown_of_below hb4 (some g))
  have HR4 := Lib.hid (HR3.out.below hb4)
  have hng : ¬ (3 : Int) < (k : Int) := by omega
  clear hcl hb4
  go_wp2_with fail
  go_loop [7, 27] (fun vv iv => ∃ i x : Nat, i ≤ k ∧ iv = .int .i64 (i : Int) ∧ vv = .int .i64 (x : Int) ∧ x = dval (C.take i)) (fun _ iv => k - (intOf iv).toNat)
  case atStart => exact ⟨0, 0, by omega, rfl, rfl, rfl⟩
  case round =>
    obtain ⟨i, x, hi, rfl, rfl, hx⟩ := hrel
    by_cases hik : i < k
    · have hiC : i < C.length := by rw [← HC.out]; exact hik
      have hdg := HCD.out C[i] (List.getElem_mem hiC)
      have hcell : w4.cell? ⟨w3.heap.size, i, none⟩ = some (.int .u8 (C[i].toNat : Int)) := HCL.out i (by rw [sl_size]; exact hiC)
      have hst := dval_step hiC
      have hxl : x < 10 ^ i := by
        rw [hx]
        have := dval_lt (l := C.take i) (fun c hc => HCD.out c (List.mem_of_mem_take hc))
        rw [List.length_take, Nat.min_eq_left (by omega)] at this
        exact this
      have hpl : 10 ^ i ≤ 100 := by
        have := Nat.pow_le_pow_right (n := 10) (by omega) (show i ≤ 2 by omega)
        simpa using this
      rw [← hx] at hst
      unfold dgt at hdg
      generalize C[i].toNat = d at *
      have hd1 : 48 ≤ d := by simp at hdg; omega
      have hd2 : d ≤ 57 := by simp at hdg; omega
      have hw := sub48 d hd1 hd2
      have hx9 : x < 100 := by omega
      have HST := Lib.hid hst
      clear hdg hst hx hxl hpl
      go_wp2
      go_round
      case rel => exact ⟨i + 1, 10 * x + (d - 48), by omega, by go_num, by congr 1, HST.out.symm⟩
      case measure => simp [intOf]; omega
    · obtain rfl : i = k := by omega
      have hCt : C.take i = C := List.take_of_length_le (by rw [← HC.out]; exact Nat.le_refl _)
      rw [hCt] at hx
      have hxl := dval_lt HCD.out
      rw [← HC.out, ← hx] at hxl
      have hpl : 10 ^ i ≤ 1000 := by
        have := Nat.pow_le_pow_right (n := 10) (by omega) (show i ≤ 3 by omega)
        simpa using this
      have hx9 : x < 1000 := by omega
      rw [← hx] at H1 H2
      clear hCt hx hpl hxl
      have HGG := Lib.hid (grown_trans HG.out (grown_trans HG3.out HG4.out))
      have hdc : decide ((x : Int) ≤ 400) = decide (x ≤ 400) := by simp; omega
      rcases hb : isHd 45 l with _ | _
      · rw [hb] at H2
        go_wp2
        go_ret2
        exact ⟨x, by rw [H1.out, ← hdc]; rfl, fun _ => ⟨H2.out.symm, by rw [H3.out]; exact HR4.out⟩, HGG.out⟩
      · rw [hb] at H2
        go_wp2
        go_ret2
        exact ⟨-x, by rw [H1.out, ← hdc]; rfl, fun _ => ⟨H2.out.symm, by rw [H3.out]; exact HR4.out⟩, HGG.out⟩
theorem exponent_any (g : Nat) (s : ByteArray) (l : List UInt8) (w : World) (h : RdL w g s l) (hs : s.size ≤ 1000000) :
    Calls Tryz.prog 170 #[.pointer (some ⟨g, 0, none⟩)] w (RetExp w g s l) := by
  rcases hq : okW (digs (off 45 l)) with _ | _
  · exact exp_bad g s l w h hs hq
  · by_cases hn : (digs (off 45 l)).length ≤ 3
    · exact exp_good g s l w h hs hq hn
    · exact exp_long g s l w h hs hq hn
end Go.Proofs.YtphlmmjlpbledaaGreatDoor
