import Derived.Laws.IdiomStrings
import Derived.Test.YtphlmmjlpbledaaGreatDoorH04
import Derived.Test.YtphlmmjlpbledaaGreatDoorH14
import Derived.Test.YtphlmmjlpbledaaGreatDoorH32
set_option linter.unusedSimpArgs false
set_option linter.unusedVariables false
namespace Go.Proofs.YtphlmmjlpbledaaGreatDoor
open Go.RowKit
set_option maxRecDepth 100000
theorem wl_ten {x k : Nat} (h : x < 10 ^ k) : wl x ≤ k := by
  refine wl_le_of (Nat.lt_of_lt_of_le h ?_)
  exact Nat.pow_le_pow_left (by omega) k
theorem wl_ten1 (k : Nat) : wl (10 ^ k) ≤ k + 1 := wl_ten (Nat.pow_lt_pow_right (by omega) (by omega))
theorem ten9 : (10 : Nat) ^ 9 = 1000000000 := by decide
theorem oneNat (w : World) : IsNat (w.alloc (.cells #[.int .u32 1] 56)) (.slice (some ⟨w.heap.size, 0, none⟩) 1 1) 1 := IsNat.one _ _ (by simp) (by simp) 1 (by omega)
theorem power_le (z : Int) (w : World) (h : z ≤ 0) (h2 : -1000000 ≤ z) : Calls Tryz.prog 171 #[.int .i64 z] w (RetNat w 1) := by
  have hd : ¬ 9 ≤ z := by omega
  have hd2 : ¬ 0 < z := by omega
  have hd3 : decide (9 ≤ z) = false := by simpa using hd
  have hd4 : decide (0 < z) = false := by simpa using hd2
  go_enter Tryz.func171, Tryz.ntmps171
  go_wp2
  go_loop [0, 3] (fun v p => v = .int .i64 z ∧ p = .slice (some ⟨w.heap.size, 0, none⟩) 1 1) (fun _ _ => 0)
  case atStart => exact ⟨rfl, rfl⟩
  case round =>
    obtain ⟨rfl, rfl⟩ := hrel
    go_wp2
    go_loop [0, 3] (fun v p => v = .int .i64 z ∧ p = .slice (some ⟨w.heap.size, 0, none⟩) 1 1) (fun _ _ => 0)
    case atStart => exact ⟨rfl, rfl⟩
    case round =>
      obtain ⟨rfl, rfl⟩ := hrel
      go_wp2
      go_ret
      exact ⟨_, rfl, oneNat w, below_alloc _ _⟩
set_option maxHeartbeats 1000000 in
theorem power_pos (n : Nat) (w : World) (h : n ≤ 1000000) : Calls Tryz.prog 171 #[.int .i64 (n : Int)] w (RetNat w (10 ^ n)) := by
  go_enter Tryz.func171, Tryz.ntmps171
  go_wp2
  go_loopw [0, 3] (fun nv pv wr => ∃ m k : Nat, m + k = n ∧ nv = .int .i64 (m : Int) ∧ IsNat wr pv (10 ^ k) ∧ Below w.heap.size w wr) (fun nv _ _ => (intOf nv).toNat)
  case atStart => exact ⟨n, 0, rfl, rfl, oneNat w, below_alloc _ _⟩
  case round =>
    obtain ⟨m, k, hmk, rfl, hp, hb⟩ := hrel
    have HP := Lib.hid hp
    have HB := Lib.hid hb
    have HMK := Lib.hid hmk
    have hk : k ≤ 1000000 := by omega
    have hm : m ≤ 1000000 := by omega
    clear hp hb hmk
    by_cases h9 : 9 ≤ m
    · go_wp2_with fail
      refine (mulWord_any _ (10 ^ k) 1000000000 0 _ HP.out (by have := wl_ten1 k; omega) (by omega) (by omega)).mono ?_
      rintro e w2 ⟨v, rfl, hv, hb2⟩
      have HV := Lib.hid hv
      have HB2 := Lib.hid hb2
      clear hv hb2
      go_wp2
      go_roundw
      case rel => exact ⟨m - 9, k + 9, by have := HMK.out; omega, by rw [show ((m : Int) - 9) = ((m - 9 : Nat) : Int) by omega], by have := HV.out; rwa [Nat.add_zero, ← ten9, ← Nat.pow_add] at this, below_trans HB.out HB2.out⟩
      case measure => simp [intOf]; omega
    · have hd : ¬ (9 : Int) ≤ (m : Int) := by omega
      go_wp2
      go_loopw [0, 3] (fun nv pv wr => ∃ m k : Nat, m + k = n ∧ nv = .int .i64 (m : Int) ∧ IsNat wr pv (10 ^ k) ∧ Below w.heap.size w wr) (fun nv _ _ => (intOf nv).toNat)
      case atStart => exact ⟨m, k, HMK.out, rfl, HP.out, HB.out⟩
      case round =>
        obtain ⟨m, k, hmk, rfl, hp, hb⟩ := hrel
        have HP := Lib.hid hp
        have HB := Lib.hid hb
        have HMK := Lib.hid hmk
        have hk : k ≤ 1000000 := by omega
        have hm : m ≤ 1000000 := by omega
        clear hp hb hmk
        rcases Nat.eq_zero_or_pos m with h0 | h0
        · subst h0
          go_wp2
          go_ret
          exact ⟨_, rfl, by rw [show n = k by have := HMK.out; omega]; exact HP.out, HB.out⟩
        · have hi0 : (0 : Int) < (m : Int) := by omega
          go_wp2_with fail
          refine (mulWord_any _ (10 ^ k) 10 0 _ HP.out (by have := wl_ten1 k; omega) (by omega) (by omega)).mono ?_
          rintro e w2 ⟨v, rfl, hv, hb2⟩
          have HV := Lib.hid hv
          have HB2 := Lib.hid hb2
          clear hv hb2
          go_wp2
          go_roundw
          case rel => exact ⟨m - 1, k + 1, by have := HMK.out; omega, by rw [show ((m : Int) - 1) = ((m - 1 : Nat) : Int) by omega], by have := HV.out; rwa [Nat.add_zero, ← Nat.pow_succ] at this, below_trans HB.out HB2.out⟩
          case measure => simp [intOf]; omega
theorem power_any (z : Int) (w : World) (h : z ≤ 1000000) (h2 : -1000000 ≤ z) : Calls Tryz.prog 171 #[.int .i64 z] w (RetNat w (10 ^ z.toNat)) := by
  rcases Int.le_total z 0 with h0 | h0
  · rw [show z.toNat = 0 by omega]
    exact power_le z w h0 h2
  · obtain ⟨n, rfl⟩ : ∃ n : Nat, z = (n : Int) := ⟨z.toNat, by omega⟩
    exact power_pos n w (by omega)
theorem bytes_run (w : World) (s : ByteArray) : ∃ w1 c, (convert 9 228 (.string s)).run Tryz.prog w = .ok (.slice (some ⟨w.heap.size, 0, none⟩) s.size c) w1 ∧
    (∀ j (h : j < s.size), w1.cell? ⟨w.heap.size, j, none⟩ = some (.int .u8 (s[j].toNat : Int))) ∧ Below w.heap.size w w1 ∧ w.heap.size < w1.heap.size := by
  refine ⟨_, _, run_bytes_of_string w 9 228 5 s (by kernel_rfl) (by kernel_rfl) (by kernel_rfl), fun j h => ?_, ?_, ?_⟩
  · have := World.cell?_alloc_mark w.drew (bytesRow s (grownCap w s.size 0 5)) 5 ((bytesRow s (grownCap w s.size 0 5)).size, (bytesRow s (grownCap w s.size 0 5)).size + 1) j
    refine this.trans ?_
    rw [bytesRow_at s _ j h]
    rfl
  · exact ((Below.refl _ w).drew).alloc (Nat.le_refl _) _
  · show w.heap.size < (w.heap.push _).size
    simp
theorem dval_take {l : List UInt8} {j k : Nat} : dval (l.take (j + k)) = dval (l.take j) * 10 ^ ((l.drop j).take k).length + dval ((l.drop j).take k) := by
  rw [List.take_add]
  unfold dval
  rw [dvalF_append, dvalF_eq]
  rfl
theorem mem_drop_take {l : List UInt8} {j k : Nat} (hd : ∀ c ∈ l, dgt c = true) : ∀ c ∈ (l.drop j).take k, dgt c = true :=
  fun c hc => hd c (List.mem_of_mem_drop (List.mem_of_mem_take hc))
theorem dval_step {l : List UInt8} {k : Nat} (h : k < l.length) : dval (l.take (k + 1)) = 10 * dval (l.take k) + (l[k].toNat - 48) := by
  rw [List.take_succ_eq_append_getElem h]
  exact dvalF_snoc _ _ _
theorem sub48 (n : Nat) (h : 48 ≤ n) (h2 : n ≤ 57) : IntKind.u8.wrap ((n : Int) - 48) = ((n - 48 : Nat) : Int) := by
  simp [IntKind.wrap, IntKind.bits, IntKind.signed]; omega
def FdRel (w : World) (l : List UInt8) (sv nv : Value) (wr : World) : Prop := ∃ j, j ≤ l.length ∧ sv = .string (sl (l.drop j)) ∧ IsNat wr nv (dval (l.take j)) ∧ Below w.heap.size w wr
set_option maxHeartbeats 1000000 in
theorem fromDigits_any (l : List UInt8) (w : World) (hd : ∀ c ∈ l, dgt c = true) (hn : l.length ≤ 1000000) : Calls Tryz.prog 168 #[.string (sl l)] w (RetNat w (dval l)) := by
  have HD := Lib.hid hd
  have HN := Lib.hid hn
  clear hd
  go_enter Tryz.func168, Tryz.ntmps168
  go_wp2
  go_loopw [0, 3] (fun sv nv wr => FdRel w l sv nv wr) (fun sv _ _ => match sv with | .string s => s.size | _ => 0)
  case atStart => exact ⟨0, by omega, rfl, IsNat.zero _ _ _, Below.refl _ _⟩
  case round =>
    obtain ⟨j, hj, rfl, hv, hb⟩ := hrel
    have HV := Lib.hid hv
    have HB := Lib.hid hb
    clear hv hb
    have hsz := sl_size (l.drop j)
    rw [List.length_drop] at hsz
    by_cases h0 : j = l.length
    · subst h0
      have hz : (sl (l.drop l.length)).size = 0 := by rw [hsz]; omega
      clear hsz
      go_wp2
      go_ret
      exact ⟨_, rfl, by have := HV.out; rwa [List.take_length] at this, HB.out⟩
    · obtain ⟨m, hm⟩ : ∃ m, m = l.length - j := ⟨_, rfl⟩
      rw [← hm] at hsz
      obtain ⟨k, hk⟩ : ∃ k, k = min m 9 := ⟨_, rfl⟩
      have hk0 : 0 < k := by omega
      have hkm : k ≤ m := by omega
      have hk9 : k ≤ 9 := by omega
      have hmin : min (m : Int) 9 = (k : Int) := by omega
      have HM := Lib.hid hm
      clear hk hm h0
      have hx1 : (sl (l.drop j)).extract 0 k = sl ((l.drop j).take k) := by rw [sl_extract]; simp [sl_data]
      have hx2 : (sl (l.drop j)).extract k m = sl (l.drop (j + k)) := by
        rw [sl_extract, sl_data, List.take_of_length_le (by simp only [List.length_drop]; have := HM.out; omega), List.drop_drop]
      obtain ⟨C, hC⟩ : ∃ C, C = (l.drop j).take k := ⟨_, rfl⟩
      have hCl : C.length = k := by rw [hC, List.length_take, List.length_drop, ← HM.out]; omega
      have hCd : ∀ c ∈ C, dgt c = true := by rw [hC]; exact mem_drop_take HD.out
      have hdv : dval (l.take (j + k)) = dval (l.take j) * 10 ^ k + dval C := by rw [dval_take, ← hC, hCl]
      rw [← hC] at hx1
      obtain ⟨w1, c1, hcv, hcl, hb1, hs1⟩ := bytes_run wr (sl C)
      have hs2 : (sl C).size = k := by rw [sl_size, hCl]
      have hm0 : (0 : Int) < (m : Int) := by omega
      have HC := Lib.hid hCl
      have HCD := Lib.hid hCd
      have HCL := Lib.hid hcl
      have HDV := Lib.hid hdv
      have HB1 := Lib.hid hb1
      clear hCl hCd hcl hdv hC hb1
      go_wp2_with fail
      go_loop [5, 6, 20] (fun vv sv iv => ∃ i x p : Nat, i ≤ k ∧ iv = .int .i64 (i : Int) ∧ vv = .int .u32 (x : Int) ∧ x = dval (C.take i) ∧ sv = .int .u32 (p : Int) ∧ p = 10 ^ i) (fun _ _ iv => k - (intOf iv).toNat)
      case atStart => exact ⟨0, 0, 1, by omega, rfl, rfl, rfl, rfl, rfl⟩
      case round =>
        obtain ⟨i, x, p, hi, rfl, rfl, hx, rfl, hp⟩ := hrel
        by_cases hik : i < k
        · have hiC : i < C.length := by rw [HC.out]; exact hik
          have hdg := HCD.out C[i] (List.getElem_mem hiC)
          have hcell : w1.cell? ⟨wr.heap.size, i, none⟩ = some (.int .u8 (C[i].toNat : Int)) := HCL.out i (by rw [sl_size]; exact hiC)
          have hst := dval_step hiC
          have hxl : x < 10 ^ i := by
            rw [hx]
            have := dval_lt (l := C.take i) (fun c hc => HCD.out c (List.mem_of_mem_take hc))
            rw [List.length_take, Nat.min_eq_left (by omega)] at this
            exact this
          have hpl : 10 ^ i ≤ 100000000 := by
            have := Nat.pow_le_pow_right (n := 10) (by omega) (show i ≤ 8 by omega)
            simpa using this
          rw [← hx] at hst
          rw [← hp] at hxl hpl
          have hp1 : p * 10 = 10 ^ (i + 1) := by rw [Nat.pow_succ, hp]
          unfold dgt at hdg
          generalize C[i].toNat = d at *
          have hd1 : 48 ≤ d := by simp at hdg; omega
          have hd2 : d ≤ 57 := by simp at hdg; omega
          have hw := sub48 d hd1 hd2
          have HST := Lib.hid hst
          have HP1 := Lib.hid hp1
          have hx9 : x < 100000000 := by omega
          clear hdg hst hp1 hx hp hxl
          go_wp2
          go_round
          case rel => exact ⟨i + 1, 10 * x + (d - 48), p * 10, by omega, by go_num, by congr 1, HST.out.symm, by go_num, HP1.out⟩
          case measure => simp [intOf]; omega
        · obtain rfl : i = k := by omega
          have hCt : C.take i = C := List.take_of_length_le (by rw [HC.out]; exact Nat.le_refl _)
          rw [hCt] at hx
          have hxl := dval_lt HCD.out
          rw [HC.out, ← hx] at hxl
          have hpl : 10 ^ i ≤ 1000000000 := by
            have := Nat.pow_le_pow_right (n := 10) (by omega) (show i ≤ 9 by omega)
            simpa using this
          rw [← hp] at hxl hpl
          have HX := Lib.hid hx
          have HPP := Lib.hid hp
          clear hCt hx hp
          go_wp2_with fail
          refine (mulWord_any _ (dval (l.take j)) p x _ (HV.out.below HB1.out) (by have := wl_ten (dval_lt (l := l.take j) (fun c hc => HD.out c (List.mem_of_mem_take hc))); rw [List.length_take] at this; omega) (by omega) (by omega)).mono ?_
          rintro e w2 ⟨v, rfl, hv, hb2⟩
          have HV2 := Lib.hid hv
          have HB2 := Lib.hid hb2
          clear hv hb2
          go_wp2
          go_roundw
          case rel => exact ⟨j + i, by have := HM.out; omega, rfl, by rw [HDV.out, ← HX.out, ← HPP.out]; exact HV2.out, below_trans HB.out (below_trans HB1.out HB2.out)⟩
          case measure => have h1 := HM.out; simp [sl_size, List.length_drop]; omega
end Go.Proofs.YtphlmmjlpbledaaGreatDoor
