import Derived.Test.YtphlmmjlpbledaaGreatDoorK05
import Derived.Test.YtphlmmjlpbledaaGreatDoorK14
import Derived.Test.YtphlmmjlpbledaaGreatDoorK15
import Derived.Test.YtphlmmjlpbledaaGreatDoorK16
import Derived.Test.YtphlmmjlpbledaaGreatDoorK38
set_option linter.unusedSimpArgs false
set_option linter.unusedVariables false
namespace Go.Proofs.YtphlmmjlpbledaaGreatDoor
open Go.RowKit
set_option maxRecDepth 100000
theorem digs_le (l : List UInt8) : (digs l).length + (past l).length = l.length := by have := congrArg List.length (digs_past l); simpa using this
theorem RdL.len {w : World} {g : Nat} {s : ByteArray} {l : List UInt8} (h : RdL w g s l) : l.length ≤ s.size := by
  obtain ⟨k, h1, h2, h3⟩ := h
  rw [← h3, List.length_drop, size_data]
  omega
theorem app_digits {l m : List UInt8} (h : ∀ c ∈ l, dgt c = true) (k : ∀ c ∈ m, dgt c = true) : ∀ c ∈ l ++ m, dgt c = true := fun c hc => by
  rcases List.mem_append.1 hc with h1 | h1
  · exact h c h1
  · exact k c h1
theorem IsNat.of_eq {w : World} {v : Value} {x y : Nat} (h : IsNat w v x) (e : x = y) : IsNat w v y := e ▸ h
theorem sl_app (l m : List UInt8) : sl l ++ sl m = sl (l ++ m) := ByteArray.mk_append_mk l m
theorem mkR (g : Nat) (s : ByteArray) (hs : s.size ≤ 1000000) : Hid (∀ l W, RdL W g s l → Calls Tryz.prog 167 #[.pointer (some ⟨g, 0, none⟩)] W (RetWhole W g s (digs l) (past l) (okW (digs l)))) ∧ Hid (∀ l W, RdL W g s l → Calls Tryz.prog 169 #[.pointer (some ⟨g, 0, none⟩)] W (RetDigs W g s (digs l) (past l))) ∧ Hid (∀ (b : UInt8) l W, RdL W g s l → Calls Tryz.prog 115 #[.pointer (some ⟨g, 0, none⟩), .int .u8 (b.toNat : Int)] W (RetTake W g s b l)) ∧ Hid (∀ l W, RdL W g s l → Calls Tryz.prog 170 #[.pointer (some ⟨g, 0, none⟩)] W (RetExp W g s l)) :=
  ⟨fun l W h => whole_any g s l W h hs, fun l W h => digits_any g s l W h hs, fun b l W h => take_any g s b l W h hs, fun l W h => exponent_any g s l W h hs⟩
theorem mkB {w : World} {g : Nat} {s : ByteArray} {l : List UInt8} (h : RdL w g s l) : Hid (RdL (w.alloc (.cells #[.slice none 0 0, .slice none 0 0, .bool false, .bool false] 117)) g s l) ∧ Hid (PB0 (w.alloc (.cells #[.slice none 0 0, .slice none 0 0, .bool false, .bool false] 117)) w.heap.size) ∧ Hid (w.grownBy (w.alloc (.cells #[.slice none 0 0, .slice none 0 0, .bool false, .bool false] 117)) (some g)) :=
  ⟨h.below (below_alloc w _), heap_alloc_new w _, grown_of_below (below_alloc w _) (some g)⟩
theorem mag_frac_t (g : Nat) (s : ByteArray) (l : List UInt8) (w : World) (h : RdL w g s l) (hs : s.size ≤ 100000) (h1 : okW (digs l) = true) (h2 : isHd 47 (past l) = true) (h3 : okW (digs (past l).tail) = true) :
    Calls Tryz.prog 116 #[.pointer (some ⟨g, 0, none⟩)] w (RetMag w g s l) := by
  have hlen := h.len
  have hs2 : s.size ≤ 1000000 := by omega
  obtain ⟨HW, HD, HT, HX⟩ := mkR g s hs2
  have H0 := hid (show pMag l = some (dval (digs l), dval (digs (past l).tail), past (past l).tail) by simp [pMag, h1, h2, h3])
  have ho : off 47 (past l) = (past l).tail := by simp [off, h2]
  have hl1 := digs_le l
  have hl2 := digs_le (past l).tail
  have hl3 : (past l).tail.length ≤ (past l).length := by simp
  have HF1 := hid (fun W => fromDigits_any (digs l) W digs_mem (by omega))
  have HF2 := hid (fun W => fromDigits_any (digs (past l).tail) W digs_mem (by omega))
  obtain ⟨HR1, HP1, HG1⟩ := mkB h
  have hne : w.heap.size ≠ g := fun e => Nat.lt_irrefl g (e ▸ h.lt)
  clear h hs hs2 hlen hl1 hl2 hl3
  go_enter Tryz.func116, Tryz.ntmps116
  go_wp2_with fail
  refine (HW.out l _ HR1.out).mono ?_
  rintro e w2 ⟨rfl, hr, hg⟩
  rw [h1]
  have HR2 := hid hr
  have HG2 := hid (grown_trans HG1.out hg)
  have HP2 := hid (HP1.out.grown hg hne)
  clear hr hg HP1 HG1
  go_wp2_with fail
  refine (HT.out 47 (past l) _ HR2.out).mono ?_
  rintro e w3 ⟨rfl, hr, hg⟩
  rw [h2]
  rw [ho] at hr
  have HR3 := hid hr
  have HG3 := hid (grown_trans HG2.out hg)
  have HP3 := hid (HP2.out.grown hg hne)
  clear hr hg HP2 HG2
  go_wp2_with fail
  refine (HW.out (past l).tail _ HR3.out).mono ?_
  rintro e w4 ⟨rfl, hr, hg⟩
  rw [h3]
  have HR4 := hid hr
  have HG4 := hid (grown_trans HG3.out hg)
  have HP4 := hid (HP3.out.grown hg hne)
  clear hr hg HP3 HG3
  go_wp2_with fail
  refine (HF1.out _).mono ?_
  rintro e w5 ⟨v5, rfl, hv5, hb⟩
  obtain ⟨A5, n5, c5, rfl, -⟩ := hv5.ex
  have HV5 := hid hv5
  have HR5 := hid (HR4.out.below hb)
  have HG5 := hid (grown_trans HG4.out (grown_of_below hb (some g)))
  have HP5 := hid (HP4.out.below hb)
  have HB5 := hid hb
  clear hv5 hb HP4 HG4
  go_wp2_with fail
  refine (HF2.out _).mono ?_
  rintro e w6 ⟨v6, rfl, hv6, hb⟩
  obtain ⟨A6, n6, c6, rfl, -⟩ := hv6.ex
  have HV6 := hid hv6
  have HR6 := hid (HR5.out.below hb)
  have HG6 := hid (grown_trans HG5.out (grown_of_below hb (some g)))
  have HP6 := hid (HP5.out.below hb)
  have HB6 := hid hb
  clear hv6 hb HP5 HG5
  obtain ⟨f0, f1, f2, f3, y0, y1, y2, y3⟩ := HP6.out.facts
  go_wp2
  exact bodyPost_ret (v := .tuple #[.agg #[.slice A5 n5 c5, .slice A6 n6 c6, .bool false, .bool false], .bool true]) (by simp [results, Tryz.results116]; exact run_load4t HP6.out _ _ _ _ _) rfl (RetMag.some_ H0.out HG6.out (Nat.le_refl _) HP6.out hne (HV5.out.below HB6.out) HV6.out HR6.out)
theorem mag_frac_f (g : Nat) (s : ByteArray) (l : List UInt8) (w : World) (h : RdL w g s l) (hs : s.size ≤ 100000) (h1 : okW (digs l) = true) (h2 : isHd 47 (past l) = true) (h3 : okW (digs (past l).tail) = false) :
    Calls Tryz.prog 116 #[.pointer (some ⟨g, 0, none⟩)] w (RetMag w g s l) := by
  have hlen := h.len
  have hs2 : s.size ≤ 1000000 := by omega
  obtain ⟨HW, HD, HT, HX⟩ := mkR g s hs2
  have H0 := hid (show pMag l = none by simp [pMag, h1, h2, h3])
  have ho : off 47 (past l) = (past l).tail := by simp [off, h2]
  have hl1 := digs_le l
  have hl2 := digs_le (past l).tail
  have hl3 : (past l).tail.length ≤ (past l).length := by simp
  have HF1 := hid (fun W => fromDigits_any (digs l) W digs_mem (by omega))
  have HF2 := hid (fun W => fromDigits_any (digs (past l).tail) W digs_mem (by omega))
  obtain ⟨HR1, HP1, HG1⟩ := mkB h
  have hne : w.heap.size ≠ g := fun e => Nat.lt_irrefl g (e ▸ h.lt)
  clear h hs hs2 hlen hl1 hl2 hl3
  go_enter Tryz.func116, Tryz.ntmps116
  go_wp2_with fail
  refine (HW.out l _ HR1.out).mono ?_
  rintro e w2 ⟨rfl, hr, hg⟩
  rw [h1]
  have HR2 := hid hr
  have HG2 := hid (grown_trans HG1.out hg)
  have HP2 := hid (HP1.out.grown hg hne)
  clear hr hg HP1 HG1
  go_wp2_with fail
  refine (HT.out 47 (past l) _ HR2.out).mono ?_
  rintro e w3 ⟨rfl, hr, hg⟩
  rw [h2]
  rw [ho] at hr
  have HR3 := hid hr
  have HG3 := hid (grown_trans HG2.out hg)
  have HP3 := hid (HP2.out.grown hg hne)
  clear hr hg HP2 HG2
  go_wp2_with fail
  refine (HW.out (past l).tail _ HR3.out).mono ?_
  rintro e w4 ⟨rfl, hr, hg⟩
  rw [h3]
  have HR4 := hid hr
  have HG4 := hid (grown_trans HG3.out hg)
  have HP4 := hid (HP3.out.grown hg hne)
  clear hr hg HP3 HG3
  go_wp2_with fail
  refine (HF1.out _).mono ?_
  rintro e w5 ⟨v5, rfl, hv5, hb⟩
  obtain ⟨A5, n5, c5, rfl, -⟩ := hv5.ex
  have HV5 := hid hv5
  have HR5 := hid (HR4.out.below hb)
  have HG5 := hid (grown_trans HG4.out (grown_of_below hb (some g)))
  have HP5 := hid (HP4.out.below hb)
  have HB5 := hid hb
  clear hv5 hb HP4 HG4
  go_wp2_with fail
  refine (HF2.out _).mono ?_
  rintro e w6 ⟨v6, rfl, hv6, hb⟩
  obtain ⟨A6, n6, c6, rfl, -⟩ := hv6.ex
  have HV6 := hid hv6
  have HR6 := hid (HR5.out.below hb)
  have HG6 := hid (grown_trans HG5.out (grown_of_below hb (some g)))
  have HP6 := hid (HP5.out.below hb)
  have HB6 := hid hb
  clear hv6 hb HP5 HG5
  obtain ⟨f0, f1, f2, f3, y0, y1, y2, y3⟩ := HP6.out.facts
  go_wp2
  exact bodyPost_ret (v := .tuple #[.agg #[.slice A5 n5 c5, .slice A6 n6 c6, .bool false, .bool false], .bool false]) (by simp [results, Tryz.results116]; exact run_load4t HP6.out _ _ _ _ _) rfl (RetMag.none_ H0.out HG6.out (Nat.le_refl _) _ _ _ _ _ _)
theorem mag_point (g : Nat) (s : ByteArray) (l : List UInt8) (w : World) (h : RdL w g s l) (hs : s.size ≤ 100000) (h1 : okW (digs l) = true) (h2 : isHd 47 (past l) = false) (h3 : isHd 46 (past l) = true) (h4 : digs (past l).tail = []) :
    Calls Tryz.prog 116 #[.pointer (some ⟨g, 0, none⟩)] w (RetMag w g s l) := by
  have hlen := h.len
  have hs2 : s.size ≤ 1000000 := by omega
  obtain ⟨HW, HD, HT, HX⟩ := mkR g s hs2
  have H0 := hid (show pMag l = none by simp [pMag, h1, h2, h3, h4])
  have ho : off 47 (past l) = past l := by simp [off, h2]
  have ho2 : off 46 (past l) = (past l).tail := by simp [off, h3]
  have e1 : (sl []).toList = [] := sl_list []
  have e2 : (sl []).toList.isEmpty = true := by rw [e1]; rfl
  have e3 : ((sl []).toList == []) = true := by rw [e1]; rfl
  obtain ⟨HR1, HP1, HG1⟩ := mkB h
  have hne : w.heap.size ≠ g := fun e => Nat.lt_irrefl g (e ▸ h.lt)
  clear h hs hs2 hlen e1
  go_enter Tryz.func116, Tryz.ntmps116
  go_wp2_with fail
  refine (HW.out l _ HR1.out).mono ?_
  rintro e w2 ⟨rfl, hr, hg⟩
  rw [h1]
  have HR2 := hid hr
  have HG2 := hid (grown_trans HG1.out hg)
  have HP2 := hid (HP1.out.grown hg hne)
  clear hr hg HP1 HG1
  go_wp2_with fail
  refine (HT.out 47 (past l) _ HR2.out).mono ?_
  rintro e w3 ⟨rfl, hr, hg⟩
  rw [h2]
  rw [ho] at hr
  have HR3 := hid hr
  have HG3 := hid (grown_trans HG2.out hg)
  have HP3 := hid (HP2.out.grown hg hne)
  clear hr hg HP2 HG2
  go_wp2_with fail
  refine (HT.out 46 (past l) _ HR3.out).mono ?_
  rintro e w4 ⟨rfl, hr, hg⟩
  rw [h3]
  rw [ho2] at hr
  have HR4 := hid hr
  have HG4 := hid (grown_trans HG3.out hg)
  have HP4 := hid (HP3.out.grown hg hne)
  clear hr hg HP3 HG3
  go_wp2_with fail
  refine (HD.out (past l).tail _ HR4.out).mono ?_
  rintro e w5 ⟨rfl, hr, hg⟩
  rw [h4]
  have HR5 := hid hr
  have HG5 := hid (grown_trans HG4.out hg)
  have HP5 := hid (HP4.out.grown hg hne)
  clear hr hg HP4 HG4
  obtain ⟨f0, f1, f2, f3, y0, y1, y2, y3⟩ := HP5.out.facts
  go_wp2
  exact bodyPost_ret (v := .tuple #[.agg #[.slice none 0 0, .slice none 0 0, .bool false, .bool false], .bool false]) (by simp [results, Tryz.results116]; exact run_load4t HP5.out _ _ _ _ _) rfl (RetMag.none_ H0.out HG5.out (Nat.le_refl _) _ _ _ _ _ _)
theorem mag_wn (g : Nat) (s : ByteArray) (l : List UInt8) (w : World) (h : RdL w g s l) (hs : s.size ≤ 100000) (h1 : okW (digs l) = true) (h2 : isHd 47 (past l) = false) (h3 : isHd 46 (past l) = false) (h5 : isHd 101 (past l) = false) :
    Calls Tryz.prog 116 #[.pointer (some ⟨g, 0, none⟩)] w (RetMag w g s l) := by
  have hlen := h.len
  have hs2 : s.size ≤ 1000000 := by omega
  obtain ⟨HW, HD, HT, HX⟩ := mkR g s hs2
  have H0 := hid (show pMag l = some (dval (digs l) * 10 ^ (0 : Int).toNat, 10 ^ (-(0 : Int)).toNat, (past l)) by simp [pMag, pTail, pFin, h1, h2, h3, h5])
  have ho : off 47 (past l) = past l := by simp [off, h2]
  have ho2 : off 46 (past l) = past l := by simp [off, h3]
  have ho3 : off 101 (past l) = (past l) := by simp [off, h5]
  have hl1 := digs_le l
  have hl2 := digs_le (past l).tail
  have hl3 : (past l).tail.length ≤ (past l).length := by simp
  have hDl : (digs l).length ≤ 100000 := by omega
  have hDd : ∀ c ∈ (digs l), dgt c = true := digs_mem
  have HF1 := hid (fun W => fromDigits_any (digs l) W hDd (by omega))
  have HDL := hid (wl_ten (dval_lt hDd))
  have HDM := hid hDl
  obtain ⟨HR1, HP1, HG1⟩ := mkB h
  have hne : w.heap.size ≠ g := fun e => Nat.lt_irrefl g (e ▸ h.lt)
  clear h hs hs2 hlen hl1 hl2 hl3 hDl hDd
  go_enter Tryz.func116, Tryz.ntmps116
  go_wp2_with fail
  refine (HW.out l _ HR1.out).mono ?_
  rintro e w2 ⟨rfl, hr, hg⟩
  rw [h1]
  have HR2 := hid hr
  have HG2 := hid (grown_trans HG1.out hg)
  have HP2 := hid (HP1.out.grown hg hne)
  clear hr hg HP1 HG1
  go_wp2_with fail
  refine (HT.out 47 (past l) _ HR2.out).mono ?_
  rintro e w3 ⟨rfl, hr, hg⟩
  rw [h2]
  rw [ho] at hr
  have HR3 := hid hr
  have HG3 := hid (grown_trans HG2.out hg)
  have HP3 := hid (HP2.out.grown hg hne)
  clear hr hg HP2 HG2
  go_wp2_with fail
  refine (HT.out 46 (past l) _ HR3.out).mono ?_
  rintro e w4 ⟨rfl, hr, hg⟩
  rw [h3]
  rw [ho2] at hr
  have HR4 := hid hr
  have HG4 := hid (grown_trans HG3.out hg)
  have HP4 := hid (HP3.out.grown hg hne)
  clear hr hg HP3 HG3
  go_wp2_with fail
  refine (HT.out 101 (past l) _ HR4.out).mono ?_
  rintro e w5 ⟨rfl, hr, hg⟩
  rw [h5]
  rw [ho3] at hr
  have HR5 := hid hr
  have HG5 := hid (grown_trans HG4.out hg)
  have HP5 := hid (HP4.out.grown hg hne)
  clear hr hg HP4 HG4
  go_wp2_with fail
  refine (HF1.out _).mono ?_
  rintro e w6 ⟨v6, rfl, hv6, hb⟩
  obtain ⟨A6, n6, c6, rfl, -⟩ := hv6.ex
  have HV6 := hid hv6
  have HR6 := hid (HR5.out.below hb)
  have HG6 := hid (grown_trans HG5.out (grown_of_below hb (some g)))
  have HP6 := hid (HP5.out.below hb)
  have HB6 := hid hb
  clear hv6 hb HP5 HG5
  go_wp2_with fail
  refine (power_any _ _ (by omega) (by omega)).mono ?_
  rintro e w7 ⟨v7, rfl, hv7, hb⟩
  obtain ⟨A7, n7, c7, rfl, -⟩ := hv7.ex
  have HV7 := hid hv7
  have HR7 := hid (HR6.out.below hb)
  have HG7 := hid (grown_trans HG6.out (grown_of_below hb (some g)))
  have HP7 := hid (HP6.out.below hb)
  have HB7 := hid hb
  clear hv7 hb HP6 HG6
  go_wp2_with fail
  refine (mul_any _ _ _ _ _ (HV6.out.below HB7.out) HV7.out (Nat.lt_of_le_of_lt (Nat.add_le_add HDL.out (wl_ten1 _)) (by have := HDM.out; omega))).mono ?_
  rintro e w8 ⟨v8, rfl, hv8, hb⟩
  obtain ⟨A8, n8, c8, rfl, -⟩ := hv8.ex
  have HV8 := hid hv8
  have HR8 := hid (HR7.out.below hb)
  have HG8 := hid (grown_trans HG7.out (grown_of_below hb (some g)))
  have HP8 := hid (HP7.out.below hb)
  have HB8 := hid hb
  clear hv8 hb HP7 HG7
  go_wp2_with fail
  refine (power_any _ _ (by omega) (by omega)).mono ?_
  rintro e w9 ⟨v9, rfl, hv9, hb⟩
  obtain ⟨A9, n9, c9, rfl, -⟩ := hv9.ex
  have HV9 := hid hv9
  have HR9 := hid (HR8.out.below hb)
  have HG9 := hid (grown_trans HG8.out (grown_of_below hb (some g)))
  have HP9 := hid (HP8.out.below hb)
  have HB9 := hid hb
  clear hv9 hb HP8 HG8
  obtain ⟨f0, f1, f2, f3, y0, y1, y2, y3⟩ := HP9.out.facts
  go_wp2
  exact bodyPost_ret (v := .tuple #[.agg #[.slice A8 n8 c8, .slice A9 n9 c9, .bool false, .bool false], .bool true]) (by simp [results, Tryz.results116]; exact run_load4t HP9.out _ _ _ _ _) rfl (RetMag.some_ H0.out HG9.out (Nat.le_refl _) HP9.out hne ((HV8.out.below HB9.out).of_eq (by congr 2)) (HV9.out.of_eq (by congr 1)) HR9.out)
theorem mag_wb (g : Nat) (s : ByteArray) (l : List UInt8) (w : World) (h : RdL w g s l) (hs : s.size ≤ 100000) (h1 : okW (digs l) = true) (h2 : isHd 47 (past l) = false) (h3 : isHd 46 (past l) = false) (h5 : isHd 101 (past l) = true) (h6 : pExpOk (past l).tail = false) :
    Calls Tryz.prog 116 #[.pointer (some ⟨g, 0, none⟩)] w (RetMag w g s l) := by
  have hlen := h.len
  have hs2 : s.size ≤ 1000000 := by omega
  obtain ⟨HW, HD, HT, HX⟩ := mkR g s hs2
  have H0 := hid (show pMag l = none by simp [pMag, pTail, h1, h2, h3, h5, h6])
  have ho : off 47 (past l) = past l := by simp [off, h2]
  have ho2 : off 46 (past l) = past l := by simp [off, h3]
  have ho3 : off 101 (past l) = (past l).tail := by simp [off, h5]
  have hl1 := digs_le l
  have hl2 := digs_le (past l).tail
  have hl3 : (past l).tail.length ≤ (past l).length := by simp
  have hDl : (digs l).length ≤ 100000 := by omega
  have hDd : ∀ c ∈ (digs l), dgt c = true := digs_mem
  have HF1 := hid (fun W => fromDigits_any (digs l) W hDd (by omega))
  have HDL := hid (wl_ten (dval_lt hDd))
  have HDM := hid hDl
  obtain ⟨HR1, HP1, HG1⟩ := mkB h
  have hne : w.heap.size ≠ g := fun e => Nat.lt_irrefl g (e ▸ h.lt)
  clear h hs hs2 hlen hl1 hl2 hl3 hDl hDd
  go_enter Tryz.func116, Tryz.ntmps116
  go_wp2_with fail
  refine (HW.out l _ HR1.out).mono ?_
  rintro e w2 ⟨rfl, hr, hg⟩
  rw [h1]
  have HR2 := hid hr
  have HG2 := hid (grown_trans HG1.out hg)
  have HP2 := hid (HP1.out.grown hg hne)
  clear hr hg HP1 HG1
  go_wp2_with fail
  refine (HT.out 47 (past l) _ HR2.out).mono ?_
  rintro e w3 ⟨rfl, hr, hg⟩
  rw [h2]
  rw [ho] at hr
  have HR3 := hid hr
  have HG3 := hid (grown_trans HG2.out hg)
  have HP3 := hid (HP2.out.grown hg hne)
  clear hr hg HP2 HG2
  go_wp2_with fail
  refine (HT.out 46 (past l) _ HR3.out).mono ?_
  rintro e w4 ⟨rfl, hr, hg⟩
  rw [h3]
  rw [ho2] at hr
  have HR4 := hid hr
  have HG4 := hid (grown_trans HG3.out hg)
  have HP4 := hid (HP3.out.grown hg hne)
  clear hr hg HP3 HG3
  go_wp2_with fail
  refine (HT.out 101 (past l) _ HR4.out).mono ?_
  rintro e w5 ⟨rfl, hr, hg⟩
  rw [h5]
  rw [ho3] at hr
  have HR5 := hid hr
  have HG5 := hid (grown_trans HG4.out hg)
  have HP5 := hid (HP4.out.grown hg hne)
  clear hr hg HP4 HG4
  go_wp2_with fail
  refine (HX.out _ _ HR5.out).mono ?_
  rintro e w6 ⟨xv, rfl, hx, hg⟩
  rw [h6]
  have HG6 := hid (grown_trans HG5.out hg)
  have HP6 := hid (HP5.out.grown hg hne)
  clear hg hx HP5 HG5
  obtain ⟨f0, f1, f2, f3, y0, y1, y2, y3⟩ := HP6.out.facts
  go_wp2
  exact bodyPost_ret (v := .tuple #[.agg #[.slice none 0 0, .slice none 0 0, .bool false, .bool false], .bool false]) (by simp [results, Tryz.results116]; exact run_load4t HP6.out _ _ _ _ _) rfl (RetMag.none_ H0.out HG6.out (Nat.le_refl _) _ _ _ _ _ _)
theorem mag_wg (g : Nat) (s : ByteArray) (l : List UInt8) (w : World) (h : RdL w g s l) (hs : s.size ≤ 100000) (h1 : okW (digs l) = true) (h2 : isHd 47 (past l) = false) (h3 : isHd 46 (past l) = false) (h5 : isHd 101 (past l) = true) (h6 : pExpOk (past l).tail = true) :
    Calls Tryz.prog 116 #[.pointer (some ⟨g, 0, none⟩)] w (RetMag w g s l) := by
  have hlen := h.len
  have hs2 : s.size ≤ 1000000 := by omega
  obtain ⟨HW, HD, HT, HX⟩ := mkR g s hs2
  have H0 := hid (show pMag l = some (dval (digs l) * 10 ^ ((0 : Int) + pExpV (past l).tail).toNat, 10 ^ (-((0 : Int) + pExpV (past l).tail)).toNat, (pExpR (past l).tail)) by simp [pMag, pTail, pFin, h1, h2, h3, h5, h6])
  have ho : off 47 (past l) = past l := by simp [off, h2]
  have ho2 : off 46 (past l) = past l := by simp [off, h3]
  have ho3 : off 101 (past l) = (past l).tail := by simp [off, h5]
  have hl1 := digs_le l
  have hl2 := digs_le (past l).tail
  have hl3 : (past l).tail.length ≤ (past l).length := by simp
  have hDl : (digs l).length ≤ 100000 := by omega
  have hDd : ∀ c ∈ (digs l), dgt c = true := digs_mem
  have HF1 := hid (fun W => fromDigits_any (digs l) W hDd (by omega))
  have HDL := hid (wl_ten (dval_lt hDd))
  have HDM := hid hDl
  have hxb : -400 ≤ pExpV (past l).tail ∧ pExpV (past l).tail ≤ 400 := by
    have := h6
    unfold pExpOk at this
    unfold pExpV
    simp at this
    split <;> omega
  obtain ⟨X, hX⟩ : ∃ X, X = pExpV (past l).tail := ⟨_, rfl⟩
  rw [← hX] at hxb
  have HX2 := hid hX
  obtain ⟨HR1, HP1, HG1⟩ := mkB h
  have hne : w.heap.size ≠ g := fun e => Nat.lt_irrefl g (e ▸ h.lt)
  clear h hs hs2 hlen hl1 hl2 hl3 hDl hDd hX
  go_enter Tryz.func116, Tryz.ntmps116
  go_wp2_with fail
  refine (HW.out l _ HR1.out).mono ?_
  rintro e w2 ⟨rfl, hr, hg⟩
  rw [h1]
  have HR2 := hid hr
  have HG2 := hid (grown_trans HG1.out hg)
  have HP2 := hid (HP1.out.grown hg hne)
  clear hr hg HP1 HG1
  go_wp2_with fail
  refine (HT.out 47 (past l) _ HR2.out).mono ?_
  rintro e w3 ⟨rfl, hr, hg⟩
  rw [h2]
  rw [ho] at hr
  have HR3 := hid hr
  have HG3 := hid (grown_trans HG2.out hg)
  have HP3 := hid (HP2.out.grown hg hne)
  clear hr hg HP2 HG2
  go_wp2_with fail
  refine (HT.out 46 (past l) _ HR3.out).mono ?_
  rintro e w4 ⟨rfl, hr, hg⟩
  rw [h3]
  rw [ho2] at hr
  have HR4 := hid hr
  have HG4 := hid (grown_trans HG3.out hg)
  have HP4 := hid (HP3.out.grown hg hne)
  clear hr hg HP3 HG3
  go_wp2_with fail
  refine (HT.out 101 (past l) _ HR4.out).mono ?_
  rintro e w5 ⟨rfl, hr, hg⟩
  rw [h5]
  rw [ho3] at hr
  have HR5 := hid hr
  have HG5 := hid (grown_trans HG4.out hg)
  have HP5 := hid (HP4.out.grown hg hne)
  clear hr hg HP4 HG4
  go_wp2_with fail
  refine (HX.out _ _ HR5.out).mono ?_
  rintro e w6 ⟨xv, rfl, hx, hg⟩
  rw [h6]
  obtain ⟨hx1, hr⟩ := hx h6
  rw [← HX2.out] at hx1
  subst hx1
  have HR6 := hid hr
  have HG6 := hid (grown_trans HG5.out hg)
  have HP6 := hid (HP5.out.grown hg hne)
  clear hr hg hx HP5 HG5
  go_wp2_with fail
  refine (HF1.out _).mono ?_
  rintro e w7 ⟨v7, rfl, hv7, hb⟩
  obtain ⟨A7, n7, c7, rfl, -⟩ := hv7.ex
  have HV7 := hid hv7
  have HR7 := hid (HR6.out.below hb)
  have HG7 := hid (grown_trans HG6.out (grown_of_below hb (some g)))
  have HP7 := hid (HP6.out.below hb)
  have HB7 := hid hb
  clear hv7 hb HP6 HG6
  go_wp2_with fail
  refine (power_any _ _ (by omega) (by omega)).mono ?_
  rintro e w8 ⟨v8, rfl, hv8, hb⟩
  obtain ⟨A8, n8, c8, rfl, -⟩ := hv8.ex
  have HV8 := hid hv8
  have HR8 := hid (HR7.out.below hb)
  have HG8 := hid (grown_trans HG7.out (grown_of_below hb (some g)))
  have HP8 := hid (HP7.out.below hb)
  have HB8 := hid hb
  clear hv8 hb HP7 HG7
  go_wp2_with fail
  refine (mul_any _ _ _ _ _ (HV7.out.below HB8.out) HV8.out (Nat.lt_of_le_of_lt (Nat.add_le_add HDL.out (wl_ten1 _)) (by have := HDM.out; omega))).mono ?_
  rintro e w9 ⟨v9, rfl, hv9, hb⟩
  obtain ⟨A9, n9, c9, rfl, -⟩ := hv9.ex
  have HV9 := hid hv9
  have HR9 := hid (HR8.out.below hb)
  have HG9 := hid (grown_trans HG8.out (grown_of_below hb (some g)))
  have HP9 := hid (HP8.out.below hb)
  have HB9 := hid hb
  clear hv9 hb HP8 HG8
  go_wp2_with fail
  refine (power_any _ _ (by omega) (by omega)).mono ?_
  rintro e w10 ⟨v10, rfl, hv10, hb⟩
  obtain ⟨A10, n10, c10, rfl, -⟩ := hv10.ex
  have HV10 := hid hv10
  have HR10 := hid (HR9.out.below hb)
  have HG10 := hid (grown_trans HG9.out (grown_of_below hb (some g)))
  have HP10 := hid (HP9.out.below hb)
  have HB10 := hid hb
  clear hv10 hb HP9 HG9
  obtain ⟨f0, f1, f2, f3, y0, y1, y2, y3⟩ := HP10.out.facts
  go_wp2
  exact bodyPost_ret (v := .tuple #[.agg #[.slice A9 n9 c9, .slice A10 n10 c10, .bool false, .bool false], .bool true]) (by simp [results, Tryz.results116]; exact run_load4t HP10.out _ _ _ _ _) rfl (RetMag.some_ H0.out HG10.out (Nat.le_refl _) HP10.out hne ((HV9.out.below HB10.out).of_eq (by congr 2; have h2 := HX2.out; omega)) (HV10.out.of_eq (by congr 1; have h2 := HX2.out; omega)) HR10.out)
theorem mag_pn (g : Nat) (s : ByteArray) (l : List UInt8) (w : World) (h : RdL w g s l) (hs : s.size ≤ 100000) (h1 : okW (digs l) = true) (h2 : isHd 47 (past l) = false) (h3 : isHd 46 (past l) = true) (h4 : ¬ digs (past l).tail = []) (h5 : isHd 101 (past (past l).tail) = false) :
    Calls Tryz.prog 116 #[.pointer (some ⟨g, 0, none⟩)] w (RetMag w g s l) := by
  have hlen := h.len
  have hs2 : s.size ≤ 1000000 := by omega
  obtain ⟨HW, HD, HT, HX⟩ := mkR g s hs2
  have H0 := hid (show pMag l = some (dval (digs l ++ digs (past l).tail) * 10 ^ (-((digs (past l).tail).length : Int)).toNat, 10 ^ (-(-((digs (past l).tail).length : Int))).toNat, (past (past l).tail)) by simp [pMag, pTail, pFin, h1, h2, h3, h4, h5])
  have ho : off 47 (past l) = past l := by simp [off, h2]
  have ho2 : off 46 (past l) = (past l).tail := by simp [off, h3]
  have ho3 : off 101 (past (past l).tail) = (past (past l).tail) := by simp [off, h5]
  have hl1 := digs_le l
  have hl2 := digs_le (past l).tail
  have hl3 : (past l).tail.length ≤ (past l).length := by simp
  have hDl : (digs l ++ digs (past l).tail).length ≤ 100000 := by rw [List.length_append]; omega
  have hDd : ∀ c ∈ (digs l ++ digs (past l).tail), dgt c = true := app_digits digs_mem digs_mem
  have HF1 := hid (fun W => fromDigits_any (digs l ++ digs (past l).tail) W hDd (by omega))
  have HDL := hid (wl_ten (dval_lt hDd))
  have HDM := hid hDl
  have e1 : (sl (digs (past l).tail)).toList = digs (past l).tail := sl_list _
  have e2 : (sl (digs (past l).tail)).toList.isEmpty = false := by rw [e1]; simpa using h4
  have e3 : ((sl (digs (past l).tail)).toList == []) = false := by rw [e1]; simpa using h4
  have e4 := sl_app (digs l) (digs (past l).tail)
  have e5 := sl_size (digs (past l).tail)
  have e6 : ¬ (9223372036854775807 < (sl (digs l)).size + (sl (digs (past l).tail)).size) := by rw [sl_size, sl_size]; omega
  obtain ⟨K, hK⟩ : ∃ K, K = (digs (past l).tail).length := ⟨_, rfl⟩
  have HK := hid hK
  rw [← hK] at e5
  have hK2 : K ≤ 100000 := by omega
  obtain ⟨HR1, HP1, HG1⟩ := mkB h
  have hne : w.heap.size ≠ g := fun e => Nat.lt_irrefl g (e ▸ h.lt)
  clear h hs hs2 hlen hl1 hl2 hl3 hDl hDd e1 hK
  go_enter Tryz.func116, Tryz.ntmps116
  go_wp2_with fail
  refine (HW.out l _ HR1.out).mono ?_
  rintro e w2 ⟨rfl, hr, hg⟩
  rw [h1]
  have HR2 := hid hr
  have HG2 := hid (grown_trans HG1.out hg)
  have HP2 := hid (HP1.out.grown hg hne)
  clear hr hg HP1 HG1
  go_wp2_with fail
  refine (HT.out 47 (past l) _ HR2.out).mono ?_
  rintro e w3 ⟨rfl, hr, hg⟩
  rw [h2]
  rw [ho] at hr
  have HR3 := hid hr
  have HG3 := hid (grown_trans HG2.out hg)
  have HP3 := hid (HP2.out.grown hg hne)
  clear hr hg HP2 HG2
  go_wp2_with fail
  refine (HT.out 46 (past l) _ HR3.out).mono ?_
  rintro e w4 ⟨rfl, hr, hg⟩
  rw [h3]
  rw [ho2] at hr
  have HR4 := hid hr
  have HG4 := hid (grown_trans HG3.out hg)
  have HP4 := hid (HP3.out.grown hg hne)
  clear hr hg HP3 HG3
  go_wp2_with fail
  refine (HD.out (past l).tail _ HR4.out).mono ?_
  rintro e w5 ⟨rfl, hr, hg⟩
  have HR5 := hid hr
  have HG5 := hid (grown_trans HG4.out hg)
  have HP5 := hid (HP4.out.grown hg hne)
  clear hr hg HP4 HG4
  go_wp2_with fail
  refine (HT.out 101 (past (past l).tail) _ HR5.out).mono ?_
  rintro e w6 ⟨rfl, hr, hg⟩
  rw [h5]
  rw [ho3] at hr
  have HR6 := hid hr
  have HG6 := hid (grown_trans HG5.out hg)
  have HP6 := hid (HP5.out.grown hg hne)
  clear hr hg HP5 HG5
  go_wp2_with fail
  refine (HF1.out _).mono ?_
  rintro e w7 ⟨v7, rfl, hv7, hb⟩
  obtain ⟨A7, n7, c7, rfl, -⟩ := hv7.ex
  have HV7 := hid hv7
  have HR7 := hid (HR6.out.below hb)
  have HG7 := hid (grown_trans HG6.out (grown_of_below hb (some g)))
  have HP7 := hid (HP6.out.below hb)
  have HB7 := hid hb
  clear hv7 hb HP6 HG6
  go_wp2_with fail
  refine (power_any _ _ (by omega) (by omega)).mono ?_
  rintro e w8 ⟨v8, rfl, hv8, hb⟩
  obtain ⟨A8, n8, c8, rfl, -⟩ := hv8.ex
  have HV8 := hid hv8
  have HR8 := hid (HR7.out.below hb)
  have HG8 := hid (grown_trans HG7.out (grown_of_below hb (some g)))
  have HP8 := hid (HP7.out.below hb)
  have HB8 := hid hb
  clear hv8 hb HP7 HG7
  go_wp2_with fail
  refine (mul_any _ _ _ _ _ (HV7.out.below HB8.out) HV8.out (Nat.lt_of_le_of_lt (Nat.add_le_add HDL.out (wl_ten1 _)) (by have := HDM.out; omega))).mono ?_
  rintro e w9 ⟨v9, rfl, hv9, hb⟩
  obtain ⟨A9, n9, c9, rfl, -⟩ := hv9.ex
  have HV9 := hid hv9
  have HR9 := hid (HR8.out.below hb)
  have HG9 := hid (grown_trans HG8.out (grown_of_below hb (some g)))
  have HP9 := hid (HP8.out.below hb)
  have HB9 := hid hb
  clear hv9 hb HP8 HG8
  go_wp2_with fail
  refine (power_any _ _ (by omega) (by omega)).mono ?_
  rintro e w10 ⟨v10, rfl, hv10, hb⟩
  obtain ⟨A10, n10, c10, rfl, -⟩ := hv10.ex
  have HV10 := hid hv10
  have HR10 := hid (HR9.out.below hb)
  have HG10 := hid (grown_trans HG9.out (grown_of_below hb (some g)))
  have HP10 := hid (HP9.out.below hb)
  have HB10 := hid hb
  clear hv10 hb HP9 HG9
  obtain ⟨f0, f1, f2, f3, y0, y1, y2, y3⟩ := HP10.out.facts
  go_wp2
  exact bodyPost_ret (v := .tuple #[.agg #[.slice A9 n9 c9, .slice A10 n10 c10, .bool false, .bool false], .bool true]) (by simp [results, Tryz.results116]; exact run_load4t HP10.out _ _ _ _ _) rfl (RetMag.some_ H0.out HG10.out (Nat.le_refl _) HP10.out hne ((HV9.out.below HB10.out).of_eq (by congr 2; have h1 := HK.out; omega)) (HV10.out.of_eq (by congr 1; have h1 := HK.out; omega)) HR10.out)
theorem mag_pb (g : Nat) (s : ByteArray) (l : List UInt8) (w : World) (h : RdL w g s l) (hs : s.size ≤ 100000) (h1 : okW (digs l) = true) (h2 : isHd 47 (past l) = false) (h3 : isHd 46 (past l) = true) (h4 : ¬ digs (past l).tail = []) (h5 : isHd 101 (past (past l).tail) = true) (h6 : pExpOk (past (past l).tail).tail = false) :
    Calls Tryz.prog 116 #[.pointer (some ⟨g, 0, none⟩)] w (RetMag w g s l) := by
  have hlen := h.len
  have hs2 : s.size ≤ 1000000 := by omega
  obtain ⟨HW, HD, HT, HX⟩ := mkR g s hs2
  have H0 := hid (show pMag l = none by simp [pMag, pTail, h1, h2, h3, h4, h5, h6])
  have ho : off 47 (past l) = past l := by simp [off, h2]
  have ho2 : off 46 (past l) = (past l).tail := by simp [off, h3]
  have ho3 : off 101 (past (past l).tail) = (past (past l).tail).tail := by simp [off, h5]
  have hl1 := digs_le l
  have hl2 := digs_le (past l).tail
  have hl3 : (past l).tail.length ≤ (past l).length := by simp
  have hDl : (digs l ++ digs (past l).tail).length ≤ 100000 := by rw [List.length_append]; omega
  have hDd : ∀ c ∈ (digs l ++ digs (past l).tail), dgt c = true := app_digits digs_mem digs_mem
  have HF1 := hid (fun W => fromDigits_any (digs l ++ digs (past l).tail) W hDd (by omega))
  have HDL := hid (wl_ten (dval_lt hDd))
  have HDM := hid hDl
  have e1 : (sl (digs (past l).tail)).toList = digs (past l).tail := sl_list _
  have e2 : (sl (digs (past l).tail)).toList.isEmpty = false := by rw [e1]; simpa using h4
  have e3 : ((sl (digs (past l).tail)).toList == []) = false := by rw [e1]; simpa using h4
  have e4 := sl_app (digs l) (digs (past l).tail)
  have e5 := sl_size (digs (past l).tail)
  have e6 : ¬ (9223372036854775807 < (sl (digs l)).size + (sl (digs (past l).tail)).size) := by rw [sl_size, sl_size]; omega
  obtain ⟨K, hK⟩ : ∃ K, K = (digs (past l).tail).length := ⟨_, rfl⟩
  have HK := hid hK
  rw [← hK] at e5
  have hK2 : K ≤ 100000 := by omega
  obtain ⟨HR1, HP1, HG1⟩ := mkB h
  have hne : w.heap.size ≠ g := fun e => Nat.lt_irrefl g (e ▸ h.lt)
  clear h hs hs2 hlen hl1 hl2 hl3 hDl hDd e1 hK
  go_enter Tryz.func116, Tryz.ntmps116
  go_wp2_with fail
  refine (HW.out l _ HR1.out).mono ?_
  rintro e w2 ⟨rfl, hr, hg⟩
  rw [h1]
  have HR2 := hid hr
  have HG2 := hid (grown_trans HG1.out hg)
  have HP2 := hid (HP1.out.grown hg hne)
  clear hr hg HP1 HG1
  go_wp2_with fail
  refine (HT.out 47 (past l) _ HR2.out).mono ?_
  rintro e w3 ⟨rfl, hr, hg⟩
  rw [h2]
  rw [ho] at hr
  have HR3 := hid hr
  have HG3 := hid (grown_trans HG2.out hg)
  have HP3 := hid (HP2.out.grown hg hne)
  clear hr hg HP2 HG2
  go_wp2_with fail
  refine (HT.out 46 (past l) _ HR3.out).mono ?_
  rintro e w4 ⟨rfl, hr, hg⟩
  rw [h3]
  rw [ho2] at hr
  have HR4 := hid hr
  have HG4 := hid (grown_trans HG3.out hg)
  have HP4 := hid (HP3.out.grown hg hne)
  clear hr hg HP3 HG3
  go_wp2_with fail
  refine (HD.out (past l).tail _ HR4.out).mono ?_
  rintro e w5 ⟨rfl, hr, hg⟩
  have HR5 := hid hr
  have HG5 := hid (grown_trans HG4.out hg)
  have HP5 := hid (HP4.out.grown hg hne)
  clear hr hg HP4 HG4
  go_wp2_with fail
  refine (HT.out 101 (past (past l).tail) _ HR5.out).mono ?_
  rintro e w6 ⟨rfl, hr, hg⟩
  rw [h5]
  rw [ho3] at hr
  have HR6 := hid hr
  have HG6 := hid (grown_trans HG5.out hg)
  have HP6 := hid (HP5.out.grown hg hne)
  clear hr hg HP5 HG5
  go_wp2_with fail
  refine (HX.out _ _ HR6.out).mono ?_
  rintro e w7 ⟨xv, rfl, hx, hg⟩
  rw [h6]
  have HG7 := hid (grown_trans HG6.out hg)
  have HP7 := hid (HP6.out.grown hg hne)
  clear hg hx HP6 HG6
  obtain ⟨f0, f1, f2, f3, y0, y1, y2, y3⟩ := HP7.out.facts
  go_wp2
  exact bodyPost_ret (v := .tuple #[.agg #[.slice none 0 0, .slice none 0 0, .bool false, .bool false], .bool false]) (by simp [results, Tryz.results116]; exact run_load4t HP7.out _ _ _ _ _) rfl (RetMag.none_ H0.out HG7.out (Nat.le_refl _) _ _ _ _ _ _)
theorem mag_pg (g : Nat) (s : ByteArray) (l : List UInt8) (w : World) (h : RdL w g s l) (hs : s.size ≤ 100000) (h1 : okW (digs l) = true) (h2 : isHd 47 (past l) = false) (h3 : isHd 46 (past l) = true) (h4 : ¬ digs (past l).tail = []) (h5 : isHd 101 (past (past l).tail) = true) (h6 : pExpOk (past (past l).tail).tail = true) :
    Calls Tryz.prog 116 #[.pointer (some ⟨g, 0, none⟩)] w (RetMag w g s l) := by
  have hlen := h.len
  have hs2 : s.size ≤ 1000000 := by omega
  obtain ⟨HW, HD, HT, HX⟩ := mkR g s hs2
  have H0 := hid (show pMag l = some (dval (digs l ++ digs (past l).tail) * 10 ^ ((-((digs (past l).tail).length : Int)) + pExpV (past (past l).tail).tail).toNat, 10 ^ (-((-((digs (past l).tail).length : Int)) + pExpV (past (past l).tail).tail)).toNat, (pExpR (past (past l).tail).tail)) by simp [pMag, pTail, pFin, h1, h2, h3, h4, h5, h6])
  have ho : off 47 (past l) = past l := by simp [off, h2]
  have ho2 : off 46 (past l) = (past l).tail := by simp [off, h3]
  have ho3 : off 101 (past (past l).tail) = (past (past l).tail).tail := by simp [off, h5]
  have hl1 := digs_le l
  have hl2 := digs_le (past l).tail
  have hl3 : (past l).tail.length ≤ (past l).length := by simp
  have hDl : (digs l ++ digs (past l).tail).length ≤ 100000 := by rw [List.length_append]; omega
  have hDd : ∀ c ∈ (digs l ++ digs (past l).tail), dgt c = true := app_digits digs_mem digs_mem
  have HF1 := hid (fun W => fromDigits_any (digs l ++ digs (past l).tail) W hDd (by omega))
  have HDL := hid (wl_ten (dval_lt hDd))
  have HDM := hid hDl
  have e1 : (sl (digs (past l).tail)).toList = digs (past l).tail := sl_list _
  have e2 : (sl (digs (past l).tail)).toList.isEmpty = false := by rw [e1]; simpa using h4
  have e3 : ((sl (digs (past l).tail)).toList == []) = false := by rw [e1]; simpa using h4
  have e4 := sl_app (digs l) (digs (past l).tail)
  have e5 := sl_size (digs (past l).tail)
  have e6 : ¬ (9223372036854775807 < (sl (digs l)).size + (sl (digs (past l).tail)).size) := by rw [sl_size, sl_size]; omega
  obtain ⟨K, hK⟩ : ∃ K, K = (digs (past l).tail).length := ⟨_, rfl⟩
  have HK := hid hK
  rw [← hK] at e5
  have hK2 : K ≤ 100000 := by omega
  have hxb : -400 ≤ pExpV (past (past l).tail).tail ∧ pExpV (past (past l).tail).tail ≤ 400 := by
    have := h6
    unfold pExpOk at this
    unfold pExpV
    simp at this
    split <;> omega
  obtain ⟨X, hX⟩ : ∃ X, X = pExpV (past (past l).tail).tail := ⟨_, rfl⟩
  rw [← hX] at hxb
  have HX2 := hid hX
  obtain ⟨HR1, HP1, HG1⟩ := mkB h
  have hne : w.heap.size ≠ g := fun e => Nat.lt_irrefl g (e ▸ h.lt)
  clear h hs hs2 hlen hl1 hl2 hl3 hDl hDd e1 hK hX
  go_enter Tryz.func116, Tryz.ntmps116
  go_wp2_with fail
  refine (HW.out l _ HR1.out).mono ?_
  rintro e w2 ⟨rfl, hr, hg⟩
  rw [h1]
  have HR2 := hid hr
  have HG2 := hid (grown_trans HG1.out hg)
  have HP2 := hid (HP1.out.grown hg hne)
  clear hr hg HP1 HG1
  go_wp2_with fail
  refine (HT.out 47 (past l) _ HR2.out).mono ?_
  rintro e w3 ⟨rfl, hr, hg⟩
  rw [h2]
  rw [ho] at hr
  have HR3 := hid hr
  have HG3 := hid (grown_trans HG2.out hg)
  have HP3 := hid (HP2.out.grown hg hne)
  clear hr hg HP2 HG2
  go_wp2_with fail
  refine (HT.out 46 (past l) _ HR3.out).mono ?_
  rintro e w4 ⟨rfl, hr, hg⟩
  rw [h3]
  rw [ho2] at hr
  have HR4 := hid hr
  have HG4 := hid (grown_trans HG3.out hg)
  have HP4 := hid (HP3.out.grown hg hne)
  clear hr hg HP3 HG3
  go_wp2_with fail
  refine (HD.out (past l).tail _ HR4.out).mono ?_
  rintro e w5 ⟨rfl, hr, hg⟩
  have HR5 := hid hr
  have HG5 := hid (grown_trans HG4.out hg)
  have HP5 := hid (HP4.out.grown hg hne)
  clear hr hg HP4 HG4
  go_wp2_with fail
  refine (HT.out 101 (past (past l).tail) _ HR5.out).mono ?_
  rintro e w6 ⟨rfl, hr, hg⟩
  rw [h5]
  rw [ho3] at hr
  have HR6 := hid hr
  have HG6 := hid (grown_trans HG5.out hg)
  have HP6 := hid (HP5.out.grown hg hne)
  clear hr hg HP5 HG5
  go_wp2_with fail
  refine (HX.out _ _ HR6.out).mono ?_
  rintro e w7 ⟨xv, rfl, hx, hg⟩
  rw [h6]
  obtain ⟨hx1, hr⟩ := hx h6
  rw [← HX2.out] at hx1
  subst hx1
  have HR7 := hid hr
  have HG7 := hid (grown_trans HG6.out hg)
  have HP7 := hid (HP6.out.grown hg hne)
  clear hr hg hx HP6 HG6
  go_wp2_with fail
  refine (HF1.out _).mono ?_
  rintro e w8 ⟨v8, rfl, hv8, hb⟩
  obtain ⟨A8, n8, c8, rfl, -⟩ := hv8.ex
  have HV8 := hid hv8
  have HR8 := hid (HR7.out.below hb)
  have HG8 := hid (grown_trans HG7.out (grown_of_below hb (some g)))
  have HP8 := hid (HP7.out.below hb)
  have HB8 := hid hb
  clear hv8 hb HP7 HG7
  go_wp2_with fail
  refine (power_any _ _ (by omega) (by omega)).mono ?_
  rintro e w9 ⟨v9, rfl, hv9, hb⟩
  obtain ⟨A9, n9, c9, rfl, -⟩ := hv9.ex
  have HV9 := hid hv9
  have HR9 := hid (HR8.out.below hb)
  have HG9 := hid (grown_trans HG8.out (grown_of_below hb (some g)))
  have HP9 := hid (HP8.out.below hb)
  have HB9 := hid hb
  clear hv9 hb HP8 HG8
  go_wp2_with fail
  refine (mul_any _ _ _ _ _ (HV8.out.below HB9.out) HV9.out (Nat.lt_of_le_of_lt (Nat.add_le_add HDL.out (wl_ten1 _)) (by have := HDM.out; omega))).mono ?_
  rintro e w10 ⟨v10, rfl, hv10, hb⟩
  obtain ⟨A10, n10, c10, rfl, -⟩ := hv10.ex
  have HV10 := hid hv10
  have HR10 := hid (HR9.out.below hb)
  have HG10 := hid (grown_trans HG9.out (grown_of_below hb (some g)))
  have HP10 := hid (HP9.out.below hb)
  have HB10 := hid hb
  clear hv10 hb HP9 HG9
  go_wp2_with fail
  refine (power_any _ _ (by omega) (by omega)).mono ?_
  rintro e w11 ⟨v11, rfl, hv11, hb⟩
  obtain ⟨A11, n11, c11, rfl, -⟩ := hv11.ex
  have HV11 := hid hv11
  have HR11 := hid (HR10.out.below hb)
  have HG11 := hid (grown_trans HG10.out (grown_of_below hb (some g)))
  have HP11 := hid (HP10.out.below hb)
  have HB11 := hid hb
  clear hv11 hb HP10 HG10
  obtain ⟨f0, f1, f2, f3, y0, y1, y2, y3⟩ := HP11.out.facts
  go_wp2
  exact bodyPost_ret (v := .tuple #[.agg #[.slice A10 n10 c10, .slice A11 n11 c11, .bool false, .bool false], .bool true]) (by simp [results, Tryz.results116]; exact run_load4t HP11.out _ _ _ _ _) rfl (RetMag.some_ H0.out HG11.out (Nat.le_refl _) HP11.out hne ((HV10.out.below HB11.out).of_eq (by congr 2; have h1 := HK.out; have h2 := HX2.out; omega)) (HV11.out.of_eq (by congr 1; have h1 := HK.out; have h2 := HX2.out; omega)) HR11.out)
theorem magnitude_any (g : Nat) (s : ByteArray) (l : List UInt8) (w : World) (h : RdL w g s l) (hs : s.size ≤ 100000) :
    Calls Tryz.prog 116 #[.pointer (some ⟨g, 0, none⟩)] w (RetMag w g s l) := by
  rcases h1 : okW (digs l) with _ | _
  · exact mag_1 g s l w h (by omega) h1
  rcases h2 : isHd 47 (past l) with _ | _
  · rcases h3 : isHd 46 (past l) with _ | _
    · rcases h5 : isHd 101 (past l) with _ | _
      · exact mag_wn g s l w h hs h1 h2 h3 h5
      · rcases h6 : pExpOk (past l).tail with _ | _
        · exact mag_wb g s l w h hs h1 h2 h3 h5 h6
        · exact mag_wg g s l w h hs h1 h2 h3 h5 h6
    · by_cases h4 : digs (past l).tail = []
      · exact mag_point g s l w h hs h1 h2 h3 h4
      · rcases h5 : isHd 101 (past (past l).tail) with _ | _
        · exact mag_pn g s l w h hs h1 h2 h3 h4 h5
        · rcases h6 : pExpOk (past (past l).tail).tail with _ | _
          · exact mag_pb g s l w h hs h1 h2 h3 h4 h5 h6
          · exact mag_pg g s l w h hs h1 h2 h3 h4 h5 h6
  · rcases h3 : okW (digs (past l).tail) with _ | _
    · exact mag_frac_f g s l w h hs h1 h2 h3
    · exact mag_frac_t g s l w h hs h1 h2 h3
theorem pt_terms (a b : Nat) (neg : Bool) (hb : 0 < b) : (if neg then -(a : Rat) else (a : Rat)) / (b : Rat) * (b : Rat) = (((if neg then -(a : Int) else (a : Int)) : Int) : Rat) := by
  have := natCast_ne hb
  rw [Rat.div_mul_cancel this]
  cases neg <;> simp [Rat.intCast_natCast]
theorem cx_zero_den (b : Nat) : (0 : Rat) * (b : Rat) = ((0 : Int) : Rat) := by simp
theorem value_any (va vb : Value) (a b : Nat) (neg im : Bool) (w : World) (ha : IsNat w va a) (hb : IsNat w vb b) (hb0 : 0 < b) (sa : wl a < 549755813888) (sb : wl b < 549755813888) (hT : Tab w) :
    Calls Tryz.prog 54 #[.agg #[va, vb, .bool neg, .bool im]] w (RetNum w (ptV ⟨a, b, neg, im⟩)) := by
  obtain ⟨A1, n1, c1, rfl, -⟩ := ha.ex
  obtain ⟨A2, n2, c2, rfl, -⟩ := hb.ex
  have HA := hid (show IsInt w (.agg #[.slice A1 n1 c1, .bool false]) (a : Int) from ⟨_, by simp, ha⟩)
  have HB := hid hb
  have HT := hid hT
  have HL := hid (fun (W : World) (v u : Value) (x : Cx) (p q : Int) (hr : IsInt W v p) (hi : IsInt W u q) (hw : Below w.heap.size w W) (h1 : x.re * (b : Rat) = (p : Rat)) (h2 : x.im * (b : Rat) = (q : Rat)) (s1 : wl p.natAbs < 549755813888) (s2 : wl q.natAbs < 549755813888) =>
    lowest_any v u (.slice A2 n2 c2) p q b b x W hr hi (hb.below hw) (Den.self hb0) h1 h2 s1 s2 sb (hT.below hw))
  have HSA := hid sa
  have HB0 := hid hb0
  clear ha hb hb0 hT sa sb
  go_enter Tryz.func54, Tryz.ntmps54
  go_wp2_with fail
  refine (signed_any _ (a : Int) neg _ (HA.out.below bel)).mono ?_
  rintro e W2 ⟨r, rfl, hr, hb2⟩
  obtain ⟨A3, n3, c3, rfl, -, -⟩ := hr.parts
  have HR := hid hr
  have HB2 := hid (show Below w.heap.size w W2 from (below_trans (below_alloc _ _) (below_alloc _ _)).trans (hb2.mono (by simp; omega)))
  obtain ⟨hc2, hf2, hz2⟩ := bcells hb2 (w.heap.size + 2) (by simp)
  have hsz : wl (if neg then -(a : Int) else (a : Int)).natAbs < 549755813888 := by
    have := HSA.out
    cases neg <;> simpa using this
  have HSZ := hid hsz
  have HQ := hid (pt_terms a b neg HB0.out)
  generalize (if neg then -(a : Int) else (a : Int)) = z at *
  generalize decide (z < 0) = q3 at *
  have hz3 : w.heap.size < W2.heap.size := by omega
  have hz4 : w.heap.size + 1 < W2.heap.size := by omega
  clear hb2 hr hsz
  cases im
  · go_wp2_with fail
    refine (HL.out _ _ _ (ptV ⟨a, b, neg, false⟩) z 0 (HR.out.below (below_alloc _ _)) (IsInt.zero _ _ _) (below_trans HB2.out (below_alloc _ _)) HQ.out (cx_zero_den b) HSZ.out (by simp [wl_zero])).mono ?_
    rintro e W5 ⟨v, rfl, hr5, hb5⟩
    have hkb : Below (w.heap.size + 2) W2 W5 := (below_alloc W2 _ |>.mono hz2).trans (hb5.mono (by simp; omega))
    obtain ⟨A4, n4, c4, p4, A5, n5, c5, p5, A6, n6, c6, a', b', d', rfl, -⟩ := hr5.parts
    have NB : NumBox W5 (w.heap.size + 1) := NumBox.of (fun b o hlt => (hkb.cell (p := ⟨b, o, none⟩) hlt).trans (hc2 b o hlt)) (by omega) (.nil (by simp [go_sem]) (by simp [go_sem]) (by simp [go_sem]) (by simp [go_sem]) (by simp [go_sem]))
    obtain ⟨o0, o1, o2, o3, o4, k0, k1, k2, k3, k4, -⟩ := id NB
    have kf : ∀ o, W5.frozen? ⟨w.heap.size + 1, o, none⟩ = false := fun o => (hkb.frozen (p := ⟨w.heap.size + 1, o, none⟩) (by simp)).trans ((hf2 (w.heap.size + 1) o (by omega)).trans (by simp [go_sem]))
    have kf0 := kf 0
    have kf1 := kf 1
    have kf2 := kf 2
    have kf3 := kf 3
    have kf4 := kf 4
    have HB5 := hid (show Below w.heap.size w W5 from HB2.out.trans ((hkb.mono (by omega))))
    have HNB := hid NB
    clear NB kf hkb hb5 hc2 hf2
    go_wp2
    refine bodyPost_ret (v := .agg #[.slice A4 n4 c4, .bool p4, .slice A5 n5 c5, .bool p5, .slice A6 n6 c6]) (by simp [results, Tryz.results54]; exact run_load5 HNB.out _ _ _ _ _) rfl ?_
    exact RetNum.box HB5.out (by omega) HNB.out hr5 _ _ _ _ _
  · go_wp2_with fail
    refine (HL.out _ _ _ (ptV ⟨a, b, neg, true⟩) 0 z (IsInt.zero _ _ _) (HR.out.below (below_alloc _ _)) (below_trans HB2.out (below_alloc _ _)) (cx_zero_den b) HQ.out (by simp [wl_zero]) HSZ.out).mono ?_
    rintro e W5 ⟨v, rfl, hr5, hb5⟩
    have hkb : Below (w.heap.size + 2) W2 W5 := (below_alloc W2 _ |>.mono hz2).trans (hb5.mono (by simp; omega))
    obtain ⟨A4, n4, c4, p4, A5, n5, c5, p5, A6, n6, c6, a', b', d', rfl, -⟩ := hr5.parts
    have NB : NumBox W5 (w.heap.size + 1) := NumBox.of (fun b o hlt => (hkb.cell (p := ⟨b, o, none⟩) hlt).trans (hc2 b o hlt)) (by omega) (.nil (by simp [go_sem]) (by simp [go_sem]) (by simp [go_sem]) (by simp [go_sem]) (by simp [go_sem]))
    obtain ⟨o0, o1, o2, o3, o4, k0, k1, k2, k3, k4, -⟩ := id NB
    have kf : ∀ o, W5.frozen? ⟨w.heap.size + 1, o, none⟩ = false := fun o => (hkb.frozen (p := ⟨w.heap.size + 1, o, none⟩) (by simp)).trans ((hf2 (w.heap.size + 1) o (by omega)).trans (by simp [go_sem]))
    have kf0 := kf 0
    have kf1 := kf 1
    have kf2 := kf 2
    have kf3 := kf 3
    have kf4 := kf 4
    have HB5 := hid (show Below w.heap.size w W5 from HB2.out.trans ((hkb.mono (by omega))))
    have HNB := hid NB
    clear NB kf hkb hb5 hc2 hf2
    go_wp2
    refine bodyPost_ret (v := .agg #[.slice A4 n4 c4, .bool p4, .slice A5 n5 c5, .bool p5, .slice A6 n6 c6]) (by simp [results, Tryz.results54]; exact run_load5 HNB.out _ _ _ _ _) rfl ?_
    exact RetNum.box HB5.out (by omega) HNB.out hr5 _ _ _ _ _
abbrev z4 : Array Value := #[.slice none 0 0, .slice none 0 0, .bool false, .bool false]
theorem PBx.set2 {w : World} {g : Nat} {a b c d : Value} (h : PBx w g a b c d) (v : Value) : PBx (w.setCell ⟨g, 2, none⟩ v) g a b v d := by
  unfold PBx at h ⊢
  simp [World.setCell, Array.getElem?_modify, h]
theorem PBx.set3 {w : World} {g : Nat} {a b c d : Value} (h : PBx w g a b c d) (v : Value) : PBx (w.setCell ⟨g, 3, none⟩ v) g a b c v := by
  unfold PBx at h ⊢
  simp [World.setCell, Array.getElem?_modify, h]
theorem set_heap {w : World} {g i k : Nat} (v : Value) (h : k ≠ g) : (w.setCell ⟨g, i, none⟩ v).heap[k]? = w.heap[k]? := Below.heap_setCell w _ v k h
theorem grown_set' {w W : World} {g i : Nat} {r : Option Nat} (h : w.grownBy W r) (hg : w.heap.size ≤ g) (v : Value) : w.grownBy (W.setCell ⟨g, i, none⟩ v) r :=
  ⟨h.os, h.tape, h.output, by simpa [World.setCell] using h.size, fun k hk hr => (set_heap v (by omega)).trans (h.block k hk hr)⟩
structure Fst (W1 W : World) (g : Nat) (s : ByteArray) (l : List UInt8) (q : Nat) (va vb : Value) (a b : Nat) (x y : Bool) : Prop where
  rd : RdL W g s l
  pb : PBx W q va vb (.bool x) (.bool y)
  na : IsNat W va a
  nb : IsNat W vb b
  gr : W1.grownBy W (some g)
  ne : q ≠ g
  lo : W1.heap.size ≤ q
section
variable {W1 W W' : World} {g q : Nat} {s : ByteArray} {l l' : List UInt8} {va vb : Value} {a b : Nat} {x y : Bool}
theorem Fst.make {A A' : Option Addr} {n c n' c' : Nat} (hR : RdL W g s l) (ha : IsNat W (.slice A n c) a) (hb : IsNat W (.slice A' n' c') b) (hg : W1.grownBy W (some g)) (x : Bool) :
    Fst W1 (W.alloc (.cells #[.slice A n c, .slice A' n' c', .bool x, .bool false] 117)) g s l W.heap.size (.slice A n c) (.slice A' n' c') a b x false := by
  have hb0 := below_alloc W (.cells #[.slice A n c, .slice A' n' c', .bool x, .bool false] 117)
  exact ⟨hR.below hb0, heap_alloc_new _ _, ha.below hb0, hb.below hb0, grown_trans hg (grown_of_below hb0 _), fun e => Nat.lt_irrefl g (e ▸ hR.lt), hg.size⟩
theorem Fst.step (h : Fst W1 W g s l q va vb a b x y) (hR : RdL W' g s l') (hg : W.grownBy W' (some g)) : Fst W1 W' g s l' q va vb a b x y :=
  ⟨hR, h.pb.grown hg h.ne, h.na.past h.rd hg, h.nb.past h.rd hg, grown_trans h.gr hg, h.ne, h.lo⟩
theorem Fst.below (h : Fst W1 W g s l q va vb a b x y) (hb : Below W.heap.size W W') : Fst W1 W' g s l q va vb a b x y :=
  ⟨h.rd.below hb, h.pb.below hb, h.na.below hb, h.nb.below hb, grown_trans h.gr (grown_of_below hb _), h.ne, h.lo⟩
theorem Fst.set3 (h : Fst W1 W g s l q va vb a b x y) (y' : Bool) : Fst W1 (W.setCell ⟨q, 3, none⟩ (.bool y')) g s l q va vb a b x y' :=
  ⟨h.rd.keep (set_heap _ (fun e => h.ne e.symm)), h.pb.set3 _, h.na.set_odd h.pb.facts.2.2.2.1 (Odd.bool _) _, h.nb.set_odd h.pb.facts.2.2.2.1 (Odd.bool _) _, grown_set' h.gr h.lo _, h.ne, h.lo⟩
theorem Fst.other {q' : Nat} {va' vb' : Value} {a' b' : Nat} {x' y' : Bool} (h : Fst W1 W g s l q va vb a b x y) (k : Fst W1 W g s l q' va' vb' a' b' x' y') (hne : q ≠ q') (z : Bool) (i : Nat) (hi : i = 2 ∨ i = 3) : Fst W1 (W.setCell ⟨q', i, none⟩ (.bool z)) g s l q va vb a b x y := by
  have hc : ∃ u, W.cell? ⟨q', i, none⟩ = some (.bool u) := by
    rcases hi with rfl | rfl
    · exact ⟨_, k.pb.facts.2.2.1⟩
    · exact ⟨_, k.pb.facts.2.2.2.1⟩
  obtain ⟨u, hc⟩ := hc
  exact ⟨h.rd.keep (set_heap _ (fun e => k.ne e.symm)), (set_heap _ hne).trans h.pb, h.na.set_odd hc (Odd.bool _) _, h.nb.set_odd hc (Odd.bool _) _, grown_set' h.gr k.lo _, h.ne, h.lo⟩
theorem Fst.set2 (h : Fst W1 W g s l q va vb a b x y) (x' : Bool) : Fst W1 (W.setCell ⟨q, 2, none⟩ (.bool x')) g s l q va vb a b x' y :=
  ⟨h.rd.keep (set_heap _ (fun e => h.ne e.symm)), h.pb.set2 _, h.na.set_odd h.pb.facts.2.2.1 (Odd.bool _) _, h.nb.set_odd h.pb.facts.2.2.1 (Odd.bool _) _, grown_set' h.gr h.lo _, h.ne, h.lo⟩
end
def kP1 (p : Pt) : Value → World → Prop := fun v W => ∃ g va vb, v = .slice (some ⟨g, 0, none⟩) 1 1 ∧ W.heap[g]? = some (.cells #[va, vb, .bool p.neg, .bool p.im] 117 (0, 0)) ∧ IsNat W va p.a ∧ IsNat W vb p.b
def kP2 (p q : Pt) : Value → World → Prop := fun v W => ∃ g va vb vc vd, v = .slice (some ⟨g, 0, none⟩) 2 2 ∧ W.heap[g]? = some (.cells #[va, vb, .bool p.neg, .bool p.im, vc, vd, .bool q.neg, .bool q.im] 117 (0, 0)) ∧ IsNat W va p.a ∧ IsNat W vb p.b ∧ IsNat W vc q.a ∧ IsNat W vd q.b
theorem block_lt' {W : World} {g : Nat} {o : Obj} (h : W.heap[g]? = some o) : g < W.heap.size := by
  rcases Nat.lt_or_ge g W.heap.size with hlt | hge
  · exact hlt
  · rw [Array.getElem?_eq_none hge] at h; cases h
theorem stab_P1 (p : Pt) : StabB (kP1 p) := fun v w w' hb ⟨g, va, vb, h1, h2, h3, h4⟩ => ⟨g, va, vb, h1, (hb.block g (block_lt' h2)).trans h2, h3.below hb, h4.below hb⟩
theorem stab_P2 (p q : Pt) : StabB (kP2 p q) := fun v w w' hb ⟨g, va, vb, vc, vd, h1, h2, h3, h4, h5, h6⟩ => ⟨g, va, vb, vc, vd, h1, (hb.block g (block_lt' h2)).trans h2, h3.below hb, h4.below hb, h5.below hb, h6.below hb⟩
def RetParts (w : World) (l : List UInt8) (e : Ending) (w' : World) : Prop :=
  Below w.heap.size w w' ∧ match pNum l with
  | none => ∃ v, e = .returned (.tuple #[v, .bool false])
  | some [p] => ∃ v, e = .returned (.tuple #[v, .bool true]) ∧ kP1 p v w'
  | some [p, q] => ∃ v, e = .returned (.tuple #[v, .bool true]) ∧ kP2 p q v w'
  | some _ => False
end Go.Proofs.YtphlmmjlpbledaaGreatDoor
