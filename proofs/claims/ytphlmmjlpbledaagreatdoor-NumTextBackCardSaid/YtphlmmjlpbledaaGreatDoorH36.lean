import Derived.Test.YtphlmmjlpbledaaGreatDoorH05
import Derived.Test.YtphlmmjlpbledaaGreatDoorH35
set_option linter.unusedSimpArgs false
set_option linter.unusedVariables false
namespace Go.Proofs.YtphlmmjlpbledaaGreatDoor
open Go.RowKit
set_option maxRecDepth 100000
theorem digs_le (l : List UInt8) : (digs l).length + (past l).length = l.length := by have := congrArg List.length (digs_past l); simpa using this
theorem RdL.len {w : World} {g : Nat} {s : ByteArray} {l : List UInt8} (h : RdL w g s l) : l.length ≤ s.size := by
  obtain ⟨k, h1, h2, h3⟩ := h
  rw [← h3, List.length_drop, size_data]
  omega
theorem app_digits {l m : List UInt8} (h : ∀ c ∈ l, dgt c = true) (k : ∀ c ∈ m, dgt c = true) : ∀ c ∈ l ++ m, dgt c = true := fun c hc => by
  rcases List.mem_append.1 hc with h1 | h1
  · exact h c h1
  · exact k c h1
theorem IsNat.of_eq {w : World} {v : Value} {x y : Nat} (h : IsNat w v x) (e : x = y) : IsNat w v y := e ▸ h
theorem sl_app (l m : List UInt8) : sl l ++ sl m = sl (l ++ m) := ByteArray.mk_append_mk l m
theorem mag_frac_t (g : Nat) (s : ByteArray) (l : List UInt8) (w : World) (h : RdL w g s l) (hs : s.size ≤ 100000) (h1 : okW (digs l) = true) (h2 : isHd 47 (past l) = true) (h3 : okW (digs (past l).tail) = true) :
    Calls Tryz.prog 116 #[.pointer (some ⟨g, 0, none⟩)] w (RetMag w g s l) := by
  have hlen := h.len
  have hs2 : s.size ≤ 1000000 := by omega
  have HW := Lib.hid (fun l W (h : RdL W g s l) => whole_any g s l W h hs2)
  have HD := Lib.hid (fun l W (h : RdL W g s l) => digits_any g s l W h hs2)
  have HT := Lib.hid (fun b l W (h : RdL W g s l) => take_any g s b l W h hs2)
  have HX := Lib.hid (fun l W (h : RdL W g s l) => exponent_any g s l W h hs2)
  have H0 := Lib.hid (show pMag l = some (dval (digs l), dval (digs (past l).tail), past (past l).tail) by simp [pMag, h1, h2, h3])
  have ho : off 47 (past l) = (past l).tail := by simp [off, h2]
  have hl1 := digs_le l
  have hl2 := digs_le (past l).tail
  have hl3 : (past l).tail.length ≤ (past l).length := by simp
  have HF1 := Lib.hid (fun W => fromDigits_any (digs l) W digs_mem (by omega))
  have HF2 := Lib.hid (fun W => fromDigits_any (digs (past l).tail) W digs_mem (by omega))
  have HR1 := Lib.hid (h.below (below_alloc w (.cells #[.slice none 0 0, .slice none 0 0, .bool false, .bool false] 117)))
  have hne : w.heap.size ≠ g := fun e => Nat.lt_irrefl g (e ▸ h.lt)
  have HP1 := Lib.hid (show PB0 (w.alloc (.cells #[.slice none 0 0, .slice none 0 0, .bool false, .bool false] 117)) w.heap.size from heap_alloc_new w _)
  have HG1 := Lib.hid (grown_of_below (below_alloc w (.cells #[.slice none 0 0, .slice none 0 0, .bool false, .bool false] 117)) (some g))
  clear h hs hs2 hlen hl1 hl2 hl3
  go_enter Tryz.func116, Tryz.ntmps116
  go_wp2_with fail
  refine (HW.out l _ HR1.out).mono ?_
  rintro e w2 ⟨rfl, hr, hg⟩
  rw [h1]
  have HR2 := Lib.hid hr
  have HG2 := Lib.hid (grown_trans HG1.out hg)
  have HP2 := Lib.hid (HP1.out.grown hg hne)
  clear hr hg HP1 HG1
  go_wp2_with fail
  refine (HT.out 47 (past l) _ HR2.out).mono ?_
  rintro e w3 ⟨rfl, hr, hg⟩
  rw [h2]
  rw [ho] at hr
  have HR3 := Lib.hid hr
  have HG3 := Lib.hid (grown_trans HG2.out hg)
  have HP3 := Lib.hid (HP2.out.grown hg hne)
  clear hr hg HP2 HG2
  go_wp2_with fail
  refine (HW.out (past l).tail _ HR3.out).mono ?_
  rintro e w4 ⟨rfl, hr, hg⟩
  rw [h3]
  have HR4 := Lib.hid hr
  have HG4 := Lib.hid (grown_trans HG3.out hg)
  have HP4 := Lib.hid (HP3.out.grown hg hne)
  clear hr hg HP3 HG3
  go_wp2_with fail
  refine (HF1.out _).mono ?_
  rintro e w5 ⟨v5, rfl, hv5, hb⟩
  obtain ⟨A5, n5, c5, rfl, -⟩ := hv5.ex
  have HV5 := Lib.hid hv5
  have HR5 := Lib.hid (HR4.out.below hb)
  have HG5 := Lib.hid (grown_trans HG4.out (grown_of_below hb (some g)))
  have HP5 := Lib.hid (HP4.out.below hb)
  have HB5 := Lib.hid hb
  clear hv5 hb HP4 HG4
  go_wp2_with fail
  refine (HF2.out _).mono ?_
  rintro e w6 ⟨v6, rfl, hv6, hb⟩
  obtain ⟨A6, n6, c6, rfl, -⟩ := hv6.ex
  have HV6 := Lib.hid hv6
  have HR6 := Lib.hid (HR5.out.below hb)
  have HG6 := Lib.hid (grown_trans HG5.out (grown_of_below hb (some g)))
  have HP6 := Lib.hid (HP5.out.below hb)
  have HB6 := Lib.hid hb
  clear hv6 hb HP5 HG5
  obtain ⟨f0, f1, f2, f3, y0, y1, y2, y3⟩ := HP6.out.facts
  go_wp2
  exact bodyPost_ret (v := .tuple #[.agg #[.slice A5 n5 c5, .slice A6 n6 c6, .bool false, .bool false], .bool true]) (by simp [results, Tryz.results116]; exact run_load4t HP6.out _ _ _ _ _) rfl (RetMag.some_ H0.out HG6.out (Nat.le_refl _) HP6.out hne (HV5.out.below HB6.out) HV6.out HR6.out)
theorem mag_frac_f (g : Nat) (s : ByteArray) (l : List UInt8) (w : World) (h : RdL w g s l) (hs : s.size ≤ 100000) (h1 : okW (digs l) = true) (h2 : isHd 47 (past l) = true) (h3 : okW (digs (past l).tail) = false) :
    Calls Tryz.prog 116 #[.pointer (some ⟨g, 0, none⟩)] w (RetMag w g s l) := by
  have hlen := h.len
  have hs2 : s.size ≤ 1000000 := by omega
  have HW := Lib.hid (fun l W (h : RdL W g s l) => whole_any g s l W h hs2)
  have HD := Lib.hid (fun l W (h : RdL W g s l) => digits_any g s l W h hs2)
  have HT := Lib.hid (fun b l W (h : RdL W g s l) => take_any g s b l W h hs2)
  have HX := Lib.hid (fun l W (h : RdL W g s l) => exponent_any g s l W h hs2)
  have H0 := Lib.hid (show pMag l = none by simp [pMag, h1, h2, h3])
  have ho : off 47 (past l) = (past l).tail := by simp [off, h2]
  have hl1 := digs_le l
  have hl2 := digs_le (past l).tail
  have hl3 : (past l).tail.length ≤ (past l).length := by simp
  have HF1 := Lib.hid (fun W => fromDigits_any (digs l) W digs_mem (by omega))
  have HF2 := Lib.hid (fun W => fromDigits_any (digs (past l).tail) W digs_mem (by omega))
  have HR1 := Lib.hid (h.below (below_alloc w (.cells #[.slice none 0 0, .slice none 0 0, .bool false, .bool false] 117)))
  have hne : w.heap.size ≠ g := fun e => Nat.lt_irrefl g (e ▸ h.lt)
  have HP1 := Lib.hid (show PB0 (w.alloc (.cells #[.slice none 0 0, .slice none 0 0, .bool false, .bool false] 117)) w.heap.size from heap_alloc_new w _)
  have HG1 := Lib.hid (grown_of_below (below_alloc w (.cells #[.slice none 0 0, .slice none 0 0, .bool false, .bool false] 117)) (some g))
  clear h hs hs2 hlen hl1 hl2 hl3
  go_enter Tryz.func116, Tryz.ntmps116
  go_wp2_with fail
  refine (HW.out l _ HR1.out).mono ?_
  rintro e w2 ⟨rfl, hr, hg⟩
  rw [h1]
  have HR2 := Lib.hid hr
  have HG2 := Lib.hid (grown_trans HG1.out hg)
  have HP2 := Lib.hid (HP1.out.grown hg hne)
  clear hr hg HP1 HG1
  go_wp2_with fail
  refine (HT.out 47 (past l) _ HR2.out).mono ?_
  rintro e w3 ⟨rfl, hr, hg⟩
  rw [h2]
  rw [ho] at hr
  have HR3 := Lib.hid hr
  have HG3 := Lib.hid (grown_trans HG2.out hg)
  have HP3 := Lib.hid (HP2.out.grown hg hne)
  clear hr hg HP2 HG2
  go_wp2_with fail
  refine (HW.out (past l).tail _ HR3.out).mono ?_
  rintro e w4 ⟨rfl, hr, hg⟩
  rw [h3]
  have HR4 := Lib.hid hr
  have HG4 := Lib.hid (grown_trans HG3.out hg)
  have HP4 := Lib.hid (HP3.out.grown hg hne)
  clear hr hg HP3 HG3
  go_wp2_with fail
  refine (HF1.out _).mono ?_
  rintro e w5 ⟨v5, rfl, hv5, hb⟩
  obtain ⟨A5, n5, c5, rfl, -⟩ := hv5.ex
  have HV5 := Lib.hid hv5
  have HR5 := Lib.hid (HR4.out.below hb)
  have HG5 := Lib.hid (grown_trans HG4.out (grown_of_below hb (some g)))
  have HP5 := Lib.hid (HP4.out.below hb)
  have HB5 := Lib.hid hb
  clear hv5 hb HP4 HG4
  go_wp2_with fail
  refine (HF2.out _).mono ?_
  rintro e w6 ⟨v6, rfl, hv6, hb⟩
  obtain ⟨A6, n6, c6, rfl, -⟩ := hv6.ex
  have HV6 := Lib.hid hv6
  have HR6 := Lib.hid (HR5.out.below hb)
  have HG6 := Lib.hid (grown_trans HG5.out (grown_of_below hb (some g)))
  have HP6 := Lib.hid (HP5.out.below hb)
  have HB6 := Lib.hid hb
  clear hv6 hb HP5 HG5
  obtain ⟨f0, f1, f2, f3, y0, y1, y2, y3⟩ := HP6.out.facts
  go_wp2
  exact bodyPost_ret (v := .tuple #[.agg #[.slice A5 n5 c5, .slice A6 n6 c6, .bool false, .bool false], .bool false]) (by simp [results, Tryz.results116]; exact run_load4t HP6.out _ _ _ _ _) rfl (RetMag.none_ H0.out HG6.out (Nat.le_refl _) _ _ _ _ _ _)
theorem mag_point (g : Nat) (s : ByteArray) (l : List UInt8) (w : World) (h : RdL w g s l) (hs : s.size ≤ 100000) (h1 : okW (digs l) = true) (h2 : isHd 47 (past l) = false) (h3 : isHd 46 (past l) = true) (h4 : digs (past l).tail = []) :
    Calls Tryz.prog 116 #[.pointer (some ⟨g, 0, none⟩)] w (RetMag w g s l) := by
  have hlen := h.len
  have hs2 : s.size ≤ 1000000 := by omega
  have HW := Lib.hid (fun l W (h : RdL W g s l) => whole_any g s l W h hs2)
  have HD := Lib.hid (fun l W (h : RdL W g s l) => digits_any g s l W h hs2)
  have HT := Lib.hid (fun b l W (h : RdL W g s l) => take_any g s b l W h hs2)
  have HX := Lib.hid (fun l W (h : RdL W g s l) => exponent_any g s l W h hs2)
  have H0 := Lib.hid (show pMag l = none by simp [pMag, h1, h2, h3, h4])
  have ho : off 47 (past l) = past l := by simp [off, h2]
  have ho2 : off 46 (past l) = (past l).tail := by simp [off, h3]
  have e1 : (sl []).toList = [] := sl_list []
  have e2 : (sl []).toList.isEmpty = true := by rw [e1]; rfl
  have e3 : ((sl []).toList == []) = true := by rw [e1]; rfl
  have HR1 := Lib.hid (h.below (below_alloc w (.cells #[.slice none 0 0, .slice none 0 0, .bool false, .bool false] 117)))
  have hne : w.heap.size ≠ g := fun e => Nat.lt_irrefl g (e ▸ h.lt)
  have HP1 := Lib.hid (show PB0 (w.alloc (.cells #[.slice none 0 0, .slice none 0 0, .bool false, .bool false] 117)) w.heap.size from heap_alloc_new w _)
  have HG1 := Lib.hid (grown_of_below (below_alloc w (.cells #[.slice none 0 0, .slice none 0 0, .bool false, .bool false] 117)) (some g))
  clear h hs hs2 hlen e1
  go_enter Tryz.func116, Tryz.ntmps116
  go_wp2_with fail
  refine (HW.out l _ HR1.out).mono ?_
  rintro e w2 ⟨rfl, hr, hg⟩
  rw [h1]
  have HR2 := Lib.hid hr
  have HG2 := Lib.hid (grown_trans HG1.out hg)
  have HP2 := Lib.hid (HP1.out.grown hg hne)
  clear hr hg HP1 HG1
  go_wp2_with fail
  refine (HT.out 47 (past l) _ HR2.out).mono ?_
  rintro e w3 ⟨rfl, hr, hg⟩
  rw [h2]
  rw [ho] at hr
  have HR3 := Lib.hid hr
  have HG3 := Lib.hid (grown_trans HG2.out hg)
  have HP3 := Lib.hid (HP2.out.grown hg hne)
  clear hr hg HP2 HG2
  go_wp2_with fail
  refine (HT.out 46 (past l) _ HR3.out).mono ?_
  rintro e w4 ⟨rfl, hr, hg⟩
  rw [h3]
  rw [ho2] at hr
  have HR4 := Lib.hid hr
  have HG4 := Lib.hid (grown_trans HG3.out hg)
  have HP4 := Lib.hid (HP3.out.grown hg hne)
  clear hr hg HP3 HG3
  go_wp2_with fail
  refine (HD.out (past l).tail _ HR4.out).mono ?_
  rintro e w5 ⟨rfl, hr, hg⟩
  rw [h4]
  have HR5 := Lib.hid hr
  have HG5 := Lib.hid (grown_trans HG4.out hg)
  have HP5 := Lib.hid (HP4.out.grown hg hne)
  clear hr hg HP4 HG4
  obtain ⟨f0, f1, f2, f3, y0, y1, y2, y3⟩ := HP5.out.facts
  go_wp2
  exact bodyPost_ret (v := .tuple #[.agg #[.slice none 0 0, .slice none 0 0, .bool false, .bool false], .bool false]) (by simp [results, Tryz.results116]; exact run_load4t HP5.out _ _ _ _ _) rfl (RetMag.none_ H0.out HG5.out (Nat.le_refl _) _ _ _ _ _ _)
theorem mag_wn (g : Nat) (s : ByteArray) (l : List UInt8) (w : World) (h : RdL w g s l) (hs : s.size ≤ 100000) (h1 : okW (digs l) = true) (h2 : isHd 47 (past l) = false) (h3 : isHd 46 (past l) = false) (h5 : isHd 101 (past l) = false) :
    Calls Tryz.prog 116 #[.pointer (some ⟨g, 0, none⟩)] w (RetMag w g s l) := by
  have hlen := h.len
  have hs2 : s.size ≤ 1000000 := by omega
  have HW := Lib.hid (fun l W (h : RdL W g s l) => whole_any g s l W h hs2)
  have HD := Lib.hid (fun l W (h : RdL W g s l) => digits_any g s l W h hs2)
  have HT := Lib.hid (fun b l W (h : RdL W g s l) => take_any g s b l W h hs2)
  have HX := Lib.hid (fun l W (h : RdL W g s l) => exponent_any g s l W h hs2)
  have H0 := Lib.hid (show pMag l = some (dval (digs l) * 10 ^ (0 : Int).toNat, 10 ^ (-(0 : Int)).toNat, (past l)) by simp [pMag, pTail, pFin, h1, h2, h3, h5])
  have ho : off 47 (past l) = past l := by simp [off, h2]
  have ho2 : off 46 (past l) = past l := by simp [off, h3]
  have ho3 : off 101 (past l) = (past l) := by simp [off, h5]
  have hl1 := digs_le l
  have hl2 := digs_le (past l).tail
  have hl3 : (past l).tail.length ≤ (past l).length := by simp
  have hDl : (digs l).length ≤ 100000 := by omega
  have hDd : ∀ c ∈ (digs l), dgt c = true := digs_mem
  have HF1 := Lib.hid (fun W => fromDigits_any (digs l) W hDd (by omega))
  have HDL := Lib.hid (wl_ten (dval_lt hDd))
  have HDM := Lib.hid hDl
  have HR1 := Lib.hid (h.below (below_alloc w (.cells #[.slice none 0 0, .slice none 0 0, .bool false, .bool false] 117)))
  have hne : w.heap.size ≠ g := fun e => Nat.lt_irrefl g (e ▸ h.lt)
  have HP1 := Lib.hid (show PB0 (w.alloc (.cells #[.slice none 0 0, .slice none 0 0, .bool false, .bool false] 117)) w.heap.size from heap_alloc_new w _)
  have HG1 := Lib.hid (grown_of_below (below_alloc w (.cells #[.slice none 0 0, .slice none 0 0, .bool false, .bool false] 117)) (some g))
  clear h hs hs2 hlen hl1 hl2 hl3 hDl hDd
  go_enter Tryz.func116, Tryz.ntmps116
  go_wp2_with fail
  refine (HW.out l _ HR1.out).mono ?_
  rintro e w2 ⟨rfl, hr, hg⟩
  rw [h1]
  have HR2 := Lib.hid hr
  have HG2 := Lib.hid (grown_trans HG1.out hg)
  have HP2 := Lib.hid (HP1.out.grown hg hne)
  clear hr hg HP1 HG1
  go_wp2_with fail
  refine (HT.out 47 (past l) _ HR2.out).mono ?_
  rintro e w3 ⟨rfl, hr, hg⟩
  rw [h2]
  rw [ho] at hr
  have HR3 := Lib.hid hr
  have HG3 := Lib.hid (grown_trans HG2.out hg)
  have HP3 := Lib.hid (HP2.out.grown hg hne)
  clear hr hg HP2 HG2
  go_wp2_with fail
  refine (HT.out 46 (past l) _ HR3.out).mono ?_
  rintro e w4 ⟨rfl, hr, hg⟩
  rw [h3]
  rw [ho2] at hr
  have HR4 := Lib.hid hr
  have HG4 := Lib.hid (grown_trans HG3.out hg)
  have HP4 := Lib.hid (HP3.out.grown hg hne)
  clear hr hg HP3 HG3
  go_wp2_with fail
  refine (HT.out 101 (past l) _ HR4.out).mono ?_
  rintro e w5 ⟨rfl, hr, hg⟩
  rw [h5]
  rw [ho3] at hr
  have HR5 := Lib.hid hr
  have HG5 := Lib.hid (grown_trans HG4.out hg)
  have HP5 := Lib.hid (HP4.out.grown hg hne)
  clear hr hg HP4 HG4
  go_wp2_with fail
  refine (HF1.out _).mono ?_
  rintro e w6 ⟨v6, rfl, hv6, hb⟩
  obtain ⟨A6, n6, c6, rfl, -⟩ := hv6.ex
  have HV6 := Lib.hid hv6
  have HR6 := Lib.hid (HR5.out.below hb)
  have HG6 := Lib.hid (grown_trans HG5.out (grown_of_below hb (some g)))
  have HP6 := Lib.hid (HP5.out.below hb)
  have HB6 := Lib.hid hb
  clear hv6 hb HP5 HG5
  go_wp2_with fail
  refine (power_any _ _ (by omega) (by omega)).mono ?_
  rintro e w7 ⟨v7, rfl, hv7, hb⟩
  obtain ⟨A7, n7, c7, rfl, -⟩ := hv7.ex
  have HV7 := Lib.hid hv7
  have HR7 := Lib.hid (HR6.out.below hb)
  have HG7 := Lib.hid (grown_trans HG6.out (grown_of_below hb (some g)))
  have HP7 := Lib.hid (HP6.out.below hb)
  have HB7 := Lib.hid hb
  clear hv7 hb HP6 HG6
  go_wp2_with fail
  refine (mul_any _ _ _ _ _ (HV6.out.below HB7.out) HV7.out (Nat.lt_of_le_of_lt (Nat.add_le_add HDL.out (wl_ten1 _)) (by have := HDM.out; omega))).mono ?_
  rintro e w8 ⟨v8, rfl, hv8, hb⟩
  obtain ⟨A8, n8, c8, rfl, -⟩ := hv8.ex
  have HV8 := Lib.hid hv8
  have HR8 := Lib.hid (HR7.out.below hb)
  have HG8 := Lib.hid (grown_trans HG7.out (grown_of_below hb (some g)))
  have HP8 := Lib.hid (HP7.out.below hb)
  have HB8 := Lib.hid hb
  clear hv8 hb HP7 HG7
  go_wp2_with fail
  refine (power_any _ _ (by omega) (by omega)).mono ?_
  rintro e w9 ⟨v9, rfl, hv9, hb⟩
  obtain ⟨A9, n9, c9, rfl, -⟩ := hv9.ex
  have HV9 := Lib.hid hv9
  have HR9 := Lib.hid (HR8.out.below hb)
  have HG9 := Lib.hid (grown_trans HG8.out (grown_of_below hb (some g)))
  have HP9 := Lib.hid (HP8.out.below hb)
  have HB9 := Lib.hid hb
  clear hv9 hb HP8 HG8
  obtain ⟨f0, f1, f2, f3, y0, y1, y2, y3⟩ := HP9.out.facts
  go_wp2
  exact bodyPost_ret (v := .tuple #[.agg #[.slice A8 n8 c8, .slice A9 n9 c9, .bool false, .bool false], .bool true]) (by simp [results, Tryz.results116]; exact run_load4t HP9.out _ _ _ _ _) rfl (RetMag.some_ H0.out HG9.out (Nat.le_refl _) HP9.out hne ((HV8.out.below HB9.out).of_eq (by congr 2)) (HV9.out.of_eq (by congr 1)) HR9.out)
theorem mag_wb (g : Nat) (s : ByteArray) (l : List UInt8) (w : World) (h : RdL w g s l) (hs : s.size ≤ 100000) (h1 : okW (digs l) = true) (h2 : isHd 47 (past l) = false) (h3 : isHd 46 (past l) = false) (h5 : isHd 101 (past l) = true) (h6 : pExpOk (past l).tail = false) :
    Calls Tryz.prog 116 #[.pointer (some ⟨g, 0, none⟩)] w (RetMag w g s l) := by
  have hlen := h.len
  have hs2 : s.size ≤ 1000000 := by omega
  have HW := Lib.hid (fun l W (h : RdL W g s l) => whole_any g s l W h hs2)
  have HD := Lib.hid (fun l W (h : RdL W g s l) => digits_any g s l W h hs2)
  have HT := Lib.hid (fun b l W (h : RdL W g s l) => take_any g s b l W h hs2)
  have HX := Lib.hid (fun l W (h : RdL W g s l) => exponent_any g s l W h hs2)
  have H0 := Lib.hid (show pMag l = none by simp [pMag, pTail, h1, h2, h3, h5, h6])
  have ho : off 47 (past l) = past l := by simp [off, h2]
  have ho2 : off 46 (past l) = past l := by simp [off, h3]
  have ho3 : off 101 (past l) = (past l).tail := by simp [off, h5]
  have hl1 := digs_le l
  have hl2 := digs_le (past l).tail
  have hl3 : (past l).tail.length ≤ (past l).length := by simp
  have hDl : (digs l).length ≤ 100000 := by omega
  have hDd : ∀ c ∈ (digs l), dgt c = true := digs_mem
  have HF1 := Lib.hid (fun W => fromDigits_any (digs l) W hDd (by omega))
  have HDL := Lib.hid (wl_ten (dval_lt hDd))
  have HDM := Lib.hid hDl
  have HR1 := Lib.hid (h.below (below_alloc w (.cells #[.slice none 0 0, .slice none 0 0, .bool false, .bool false] 117)))
  have hne : w.heap.size ≠ g := fun e => Nat.lt_irrefl g (e ▸ h.lt)
  have HP1 := Lib.hid (show PB0 (w.alloc (.cells #[.slice none 0 0, .slice none 0 0, .bool false, .bool false] 117)) w.heap.size from heap_alloc_new w _)
  have HG1 := Lib.hid (grown_of_below (below_alloc w (.cells #[.slice none 0 0, .slice none 0 0, .bool false, .bool false] 117)) (some g))
  clear h hs hs2 hlen hl1 hl2 hl3 hDl hDd
  go_enter Tryz.func116, Tryz.ntmps116
  go_wp2_with fail
  refine (HW.out l _ HR1.out).mono ?_
  rintro e w2 ⟨rfl, hr, hg⟩
  rw [h1]
  have HR2 := Lib.hid hr
  have HG2 := Lib.hid (grown_trans HG1.out hg)
  have HP2 := Lib.hid (HP1.out.grown hg hne)
  clear hr hg HP1 HG1
  go_wp2_with fail
  refine (HT.out 47 (past l) _ HR2.out).mono ?_
  rintro e w3 ⟨rfl, hr, hg⟩
  rw [h2]
  rw [ho] at hr
  have HR3 := Lib.hid hr
  have HG3 := Lib.hid (grown_trans HG2.out hg)
  have HP3 := Lib.hid (HP2.out.grown hg hne)
  clear hr hg HP2 HG2
  go_wp2_with fail
  refine (HT.out 46 (past l) _ HR3.out).mono ?_
  rintro e w4 ⟨rfl, hr, hg⟩
  rw [h3]
  rw [ho2] at hr
  have HR4 := Lib.hid hr
  have HG4 := Lib.hid (grown_trans HG3.out hg)
  have HP4 := Lib.hid (HP3.out.grown hg hne)
  clear hr hg HP3 HG3
  go_wp2_with fail
  refine (HT.out 101 (past l) _ HR4.out).mono ?_
  rintro e w5 ⟨rfl, hr, hg⟩
  rw [h5]
  rw [ho3] at hr
  have HR5 := Lib.hid hr
  have HG5 := Lib.hid (grown_trans HG4.out hg)
  have HP5 := Lib.hid (HP4.out.grown hg hne)
  clear hr hg HP4 HG4
  go_wp2_with fail
  refine (HX.out _ _ HR5.out).mono ?_
  rintro e w6 ⟨xv, rfl, hx, hg⟩
  rw [h6]
  have HG6 := Lib.hid (grown_trans HG5.out hg)
  have HP6 := Lib.hid (HP5.out.grown hg hne)
  clear hg hx HP5 HG5
  obtain ⟨f0, f1, f2, f3, y0, y1, y2, y3⟩ := HP6.out.facts
  go_wp2
  exact bodyPost_ret (v := .tuple #[.agg #[.slice none 0 0, .slice none 0 0, .bool false, .bool false], .bool false]) (by simp [results, Tryz.results116]; exact run_load4t HP6.out _ _ _ _ _) rfl (RetMag.none_ H0.out HG6.out (Nat.le_refl _) _ _ _ _ _ _)
theorem mag_wg (g : Nat) (s : ByteArray) (l : List UInt8) (w : World) (h : RdL w g s l) (hs : s.size ≤ 100000) (h1 : okW (digs l) = true) (h2 : isHd 47 (past l) = false) (h3 : isHd 46 (past l) = false) (h5 : isHd 101 (past l) = true) (h6 : pExpOk (past l).tail = true) :
    Calls Tryz.prog 116 #[.pointer (some ⟨g, 0, none⟩)] w (RetMag w g s l) := by
  have hlen := h.len
  have hs2 : s.size ≤ 1000000 := by omega
  have HW := Lib.hid (fun l W (h : RdL W g s l) => whole_any g s l W h hs2)
  have HD := Lib.hid (fun l W (h : RdL W g s l) => digits_any g s l W h hs2)
  have HT := Lib.hid (fun b l W (h : RdL W g s l) => take_any g s b l W h hs2)
  have HX := Lib.hid (fun l W (h : RdL W g s l) => exponent_any g s l W h hs2)
  have H0 := Lib.hid (show pMag l = some (dval (digs l) * 10 ^ ((0 : Int) + pExpV (past l).tail).toNat, 10 ^ (-((0 : Int) + pExpV (past l).tail)).toNat, (pExpR (past l).tail)) by simp [pMag, pTail, pFin, h1, h2, h3, h5, h6])
  have ho : off 47 (past l) = past l := by simp [off, h2]
  have ho2 : off 46 (past l) = past l := by simp [off, h3]
  have ho3 : off 101 (past l) = (past l).tail := by simp [off, h5]
  have hl1 := digs_le l
  have hl2 := digs_le (past l).tail
  have hl3 : (past l).tail.length ≤ (past l).length := by simp
  have hDl : (digs l).length ≤ 100000 := by omega
  have hDd : ∀ c ∈ (digs l), dgt c = true := digs_mem
  have HF1 := Lib.hid (fun W => fromDigits_any (digs l) W hDd (by omega))
  have HDL := Lib.hid (wl_ten (dval_lt hDd))
  have HDM := Lib.hid hDl
  have hxb : -400 ≤ pExpV (past l).tail ∧ pExpV (past l).tail ≤ 400 := by
    have := h6
    unfold pExpOk at this
    unfold pExpV
    simp at this
    split <;> omega
  obtain ⟨X, hX⟩ : ∃ X, X = pExpV (past l).tail := ⟨_, rfl⟩
  rw [← hX] at hxb
  have HX2 := Lib.hid hX
  have HR1 := Lib.hid (h.below (below_alloc w (.cells #[.slice none 0 0, .slice none 0 0, .bool false, .bool false] 117)))
  have hne : w.heap.size ≠ g := fun e => Nat.lt_irrefl g (e ▸ h.lt)
  have HP1 := Lib.hid (show PB0 (w.alloc (.cells #[.slice none 0 0, .slice none 0 0, .bool false, .bool false] 117)) w.heap.size from heap_alloc_new w _)
  have HG1 := Lib.hid (grown_of_below (below_alloc w (.cells #[.slice none 0 0, .slice none 0 0, .bool false, .bool false] 117)) (some g))
  clear h hs hs2 hlen hl1 hl2 hl3 hDl hDd hX
  go_enter Tryz.func116, Tryz.ntmps116
  go_wp2_with fail
  refine (HW.out l _ HR1.out).mono ?_
  rintro e w2 ⟨rfl, hr, hg⟩
  rw [h1]
  have HR2 := Lib.hid hr
  have HG2 := Lib.hid (grown_trans HG1.out hg)
  have HP2 := Lib.hid (HP1.out.grown hg hne)
  clear hr hg HP1 HG1
  go_wp2_with fail
  refine (HT.out 47 (past l) _ HR2.out).mono ?_
  rintro e w3 ⟨rfl, hr, hg⟩
  rw [h2]
  rw [ho] at hr
  have HR3 := Lib.hid hr
  have HG3 := Lib.hid (grown_trans HG2.out hg)
  have HP3 := Lib.hid (HP2.out.grown hg hne)
  clear hr hg HP2 HG2
  go_wp2_with fail
  refine (HT.out 46 (past l) _ HR3.out).mono ?_
  rintro e w4 ⟨rfl, hr, hg⟩
  rw [h3]
  rw [ho2] at hr
  have HR4 := Lib.hid hr
  have HG4 := Lib.hid (grown_trans HG3.out hg)
  have HP4 := Lib.hid (HP3.out.grown hg hne)
  clear hr hg HP3 HG3
  go_wp2_with fail
  refine (HT.out 101 (past l) _ HR4.out).mono ?_
  rintro e w5 ⟨rfl, hr, hg⟩
  rw [h5]
  rw [ho3] at hr
  have HR5 := Lib.hid hr
  have HG5 := Lib.hid (grown_trans HG4.out hg)
  have HP5 := Lib.hid (HP4.out.grown hg hne)
  clear hr hg HP4 HG4
  go_wp2_with fail
  refine (HX.out _ _ HR5.out).mono ?_
  rintro e w6 ⟨xv, rfl, hx, hg⟩
  rw [h6]
  obtain ⟨hx1, hr⟩ := hx h6
  rw [← HX2.out] at hx1
  subst hx1
  have HR6 := Lib.hid hr
  have HG6 := Lib.hid (grown_trans HG5.out hg)
  have HP6 := Lib.hid (HP5.out.grown hg hne)
  clear hr hg hx HP5 HG5
  go_wp2_with fail
  refine (HF1.out _).mono ?_
  rintro e w7 ⟨v7, rfl, hv7, hb⟩
  obtain ⟨A7, n7, c7, rfl, -⟩ := hv7.ex
  have HV7 := Lib.hid hv7
  have HR7 := Lib.hid (HR6.out.below hb)
  have HG7 := Lib.hid (grown_trans HG6.out (grown_of_below hb (some g)))
  have HP7 := Lib.hid (HP6.out.below hb)
  have HB7 := Lib.hid hb
  clear hv7 hb HP6 HG6
  go_wp2_with fail
  refine (power_any _ _ (by omega) (by omega)).mono ?_
  rintro e w8 ⟨v8, rfl, hv8, hb⟩
  obtain ⟨A8, n8, c8, rfl, -⟩ := hv8.ex
  have HV8 := Lib.hid hv8
  have HR8 := Lib.hid (HR7.out.below hb)
  have HG8 := Lib.hid (grown_trans HG7.out (grown_of_below hb (some g)))
  have HP8 := Lib.hid (HP7.out.below hb)
  have HB8 := Lib.hid hb
  clear hv8 hb HP7 HG7
  go_wp2_with fail
  refine (mul_any _ _ _ _ _ (HV7.out.below HB8.out) HV8.out (Nat.lt_of_le_of_lt (Nat.add_le_add HDL.out (wl_ten1 _)) (by have := HDM.out; omega))).mono ?_
  rintro e w9 ⟨v9, rfl, hv9, hb⟩
  obtain ⟨A9, n9, c9, rfl, -⟩ := hv9.ex
  have HV9 := Lib.hid hv9
  have HR9 := Lib.hid (HR8.out.below hb)
  have HG9 := Lib.hid (grown_trans HG8.out (grown_of_below hb (some g)))
  have HP9 := Lib.hid (HP8.out.below hb)
  have HB9 := Lib.hid hb
  clear hv9 hb HP8 HG8
  go_wp2_with fail
  refine (power_any _ _ (by omega) (by omega)).mono ?_
  rintro e w10 ⟨v10, rfl, hv10, hb⟩
  obtain ⟨A10, n10, c10, rfl, -⟩ := hv10.ex
  have HV10 := Lib.hid hv10
  have HR10 := Lib.hid (HR9.out.below hb)
  have HG10 := Lib.hid (grown_trans HG9.out (grown_of_below hb (some g)))
  have HP10 := Lib.hid (HP9.out.below hb)
  have HB10 := Lib.hid hb
  clear hv10 hb HP9 HG9
  obtain ⟨f0, f1, f2, f3, y0, y1, y2, y3⟩ := HP10.out.facts
  go_wp2
  exact bodyPost_ret (v := .tuple #[.agg #[.slice A9 n9 c9, .slice A10 n10 c10, .bool false, .bool false], .bool true]) (by simp [results, Tryz.results116]; exact run_load4t HP10.out _ _ _ _ _) rfl (RetMag.some_ H0.out HG10.out (Nat.le_refl _) HP10.out hne ((HV9.out.below HB10.out).of_eq (by congr 2; have h2 := HX2.out; omega)) (HV10.out.of_eq (by congr 1; have h2 := HX2.out; omega)) HR10.out)
theorem mag_pn (g : Nat) (s : ByteArray) (l : List UInt8) (w : World) (h : RdL w g s l) (hs : s.size ≤ 100000) (h1 : okW (digs l) = true) (h2 : isHd 47 (past l) = false) (h3 : isHd 46 (past l) = true) (h4 : ¬ digs (past l).tail = []) (h5 : isHd 101 (past (past l).tail) = false) :
    Calls Tryz.prog 116 #[.pointer (some ⟨g, 0, none⟩)] w (RetMag w g s l) := by
  have hlen := h.len
  have hs2 : s.size ≤ 1000000 := by omega
  have HW := Lib.hid (fun l W (h : RdL W g s l) => whole_any g s l W h hs2)
  have HD := Lib.hid (fun l W (h : RdL W g s l) => digits_any g s l W h hs2)
  have HT := Lib.hid (fun b l W (h : RdL W g s l) => take_any g s b l W h hs2)
  have HX := Lib.hid (fun l W (h : RdL W g s l) => exponent_any g s l W h hs2)
  have H0 := Lib.hid (show pMag l = some (dval (digs l ++ digs (past l).tail) * 10 ^ (-((digs (past l).tail).length : Int)).toNat, 10 ^ (-(-((digs (past l).tail).length : Int))).toNat, (past (past l).tail)) by simp [pMag, pTail, pFin, h1, h2, h3, h4, h5])
  have ho : off 47 (past l) = past l := by simp [off, h2]
  have ho2 : off 46 (past l) = (past l).tail := by simp [off, h3]
  have ho3 : off 101 (past (past l).tail) = (past (past l).tail) := by simp [off, h5]
  have hl1 := digs_le l
  have hl2 := digs_le (past l).tail
  have hl3 : (past l).tail.length ≤ (past l).length := by simp
  have hDl : (digs l ++ digs (past l).tail).length ≤ 100000 := by rw [List.length_append]; omega
  have hDd : ∀ c ∈ (digs l ++ digs (past l).tail), dgt c = true := app_digits digs_mem digs_mem
  have HF1 := Lib.hid (fun W => fromDigits_any (digs l ++ digs (past l).tail) W hDd (by omega))
  have HDL := Lib.hid (wl_ten (dval_lt hDd))
  have HDM := Lib.hid hDl
  have e1 : (sl (digs (past l).tail)).toList = digs (past l).tail := sl_list _
  have e2 : (sl (digs (past l).tail)).toList.isEmpty = false := by rw [e1]; simpa using h4
  have e3 : ((sl (digs (past l).tail)).toList == []) = false := by rw [e1]; simpa using h4
  have e4 := sl_app (digs l) (digs (past l).tail)
  have e5 := sl_size (digs (past l).tail)
  have e6 : ¬ (9223372036854775807 < (sl (digs l)).size + (sl (digs (past l).tail)).size) := by rw [sl_size, sl_size]; omega
  obtain ⟨K, hK⟩ : ∃ K, K = (digs (past l).tail).length := ⟨_, rfl⟩
  have HK := Lib.hid hK
  rw [← hK] at e5
  have hK2 : K ≤ 100000 := by omega
  have HR1 := Lib.hid (h.below (below_alloc w (.cells #[.slice none 0 0, .slice none 0 0, .bool false, .bool false] 117)))
  have hne : w.heap.size ≠ g := fun e => Nat.lt_irrefl g (e ▸ h.lt)
  have HP1 := Lib.hid (show PB0 (w.alloc (.cells #[.slice none 0 0, .slice none 0 0, .bool false, .bool false] 117)) w.heap.size from heap_alloc_new w _)
  have HG1 := Lib.hid (grown_of_below (below_alloc w (.cells #[.slice none 0 0, .slice none 0 0, .bool false, .bool false] 117)) (some g))
  clear h hs hs2 hlen hl1 hl2 hl3 hDl hDd e1 hK
  go_enter Tryz.func116, Tryz.ntmps116
  go_wp2_with fail
  refine (HW.out l _ HR1.out).mono ?_
  rintro e w2 ⟨rfl, hr, hg⟩
  rw [h1]
  have HR2 := Lib.hid hr
  have HG2 := Lib.hid (grown_trans HG1.out hg)
  have HP2 := Lib.hid (HP1.out.grown hg hne)
  clear hr hg HP1 HG1
  go_wp2_with fail
  refine (HT.out 47 (past l) _ HR2.out).mono ?_
  rintro e w3 ⟨rfl, hr, hg⟩
  rw [h2]
  rw [ho] at hr
  have HR3 := Lib.hid hr
  have HG3 := Lib.hid (grown_trans HG2.out hg)
  have HP3 := Lib.hid (HP2.out.grown hg hne)
  clear hr hg HP2 HG2
  go_wp2_with fail
  refine (HT.out 46 (past l) _ HR3.out).mono ?_
  rintro e w4 ⟨rfl, hr, hg⟩
  rw [h3]
  rw [ho2] at hr
  have HR4 := Lib.hid hr
  have HG4 := Lib.hid (grown_trans HG3.out hg)
  have HP4 := Lib.hid (HP3.out.grown hg hne)
  clear hr hg HP3 HG3
  go_wp2_with fail
  refine (HD.out (past l).tail _ HR4.out).mono ?_
  rintro e w5 ⟨rfl, hr, hg⟩
  have HR5 := Lib.hid hr
  have HG5 := Lib.hid (grown_trans HG4.out hg)
  have HP5 := Lib.hid (HP4.out.grown hg hne)
  clear hr hg HP4 HG4
  go_wp2_with fail
  refine (HT.out 101 (past (past l).tail) _ HR5.out).mono ?_
  rintro e w6 ⟨rfl, hr, hg⟩
  rw [h5]
  rw [ho3] at hr
  have HR6 := Lib.hid hr
  have HG6 := Lib.hid (grown_trans HG5.out hg)
  have HP6 := Lib.hid (HP5.out.grown hg hne)
  clear hr hg HP5 HG5
  go_wp2_with fail
  refine (HF1.out _).mono ?_
  rintro e w7 ⟨v7, rfl, hv7, hb⟩
  obtain ⟨A7, n7, c7, rfl, -⟩ := hv7.ex
  have HV7 := Lib.hid hv7
  have HR7 := Lib.hid (HR6.out.below hb)
  have HG7 := Lib.hid (grown_trans HG6.out (grown_of_below hb (some g)))
  have HP7 := Lib.hid (HP6.out.below hb)
  have HB7 := Lib.hid hb
  clear hv7 hb HP6 HG6
  go_wp2_with fail
  refine (power_any _ _ (by omega) (by omega)).mono ?_
  rintro e w8 ⟨v8, rfl, hv8, hb⟩
  obtain ⟨A8, n8, c8, rfl, -⟩ := hv8.ex
  have HV8 := Lib.hid hv8
  have HR8 := Lib.hid (HR7.out.below hb)
  have HG8 := Lib.hid (grown_trans HG7.out (grown_of_below hb (some g)))
  have HP8 := Lib.hid (HP7.out.below hb)
  have HB8 := Lib.hid hb
  clear hv8 hb HP7 HG7
  go_wp2_with fail
  refine (mul_any _ _ _ _ _ (HV7.out.below HB8.out) HV8.out (Nat.lt_of_le_of_lt (Nat.add_le_add HDL.out (wl_ten1 _)) (by have := HDM.out; omega))).mono ?_
  rintro e w9 ⟨v9, rfl, hv9, hb⟩
  obtain ⟨A9, n9, c9, rfl, -⟩ := hv9.ex
  have HV9 := Lib.hid hv9
  have HR9 := Lib.hid (HR8.out.below hb)
  have HG9 := Lib.hid (grown_trans HG8.out (grown_of_below hb (some g)))
  have HP9 := Lib.hid (HP8.out.below hb)
  have HB9 := Lib.hid hb
  clear hv9 hb HP8 HG8
  go_wp2_with fail
  refine (power_any _ _ (by omega) (by omega)).mono ?_
  rintro e w10 ⟨v10, rfl, hv10, hb⟩
  obtain ⟨A10, n10, c10, rfl, -⟩ := hv10.ex
  have HV10 := Lib.hid hv10
  have HR10 := Lib.hid (HR9.out.below hb)
  have HG10 := Lib.hid (grown_trans HG9.out (grown_of_below hb (some g)))
  have HP10 := Lib.hid (HP9.out.below hb)
  have HB10 := Lib.hid hb
  clear hv10 hb HP9 HG9
  obtain ⟨f0, f1, f2, f3, y0, y1, y2, y3⟩ := HP10.out.facts
  go_wp2
  exact bodyPost_ret (v := .tuple #[.agg #[.slice A9 n9 c9, .slice A10 n10 c10, .bool false, .bool false], .bool true]) (by simp [results, Tryz.results116]; exact run_load4t HP10.out _ _ _ _ _) rfl (RetMag.some_ H0.out HG10.out (Nat.le_refl _) HP10.out hne ((HV9.out.below HB10.out).of_eq (by congr 2; have h1 := HK.out; omega)) (HV10.out.of_eq (by congr 1; have h1 := HK.out; omega)) HR10.out)
theorem mag_pb (g : Nat) (s : ByteArray) (l : List UInt8) (w : World) (h : RdL w g s l) (hs : s.size ≤ 100000) (h1 : okW (digs l) = true) (h2 : isHd 47 (past l) = false) (h3 : isHd 46 (past l) = true) (h4 : ¬ digs (past l).tail = []) (h5 : isHd 101 (past (past l).tail) = true) (h6 : pExpOk (past (past l).tail).tail = false) :
    Calls Tryz.prog 116 #[.pointer (some ⟨g, 0, none⟩)] w (RetMag w g s l) := by
  have hlen := h.len
  have hs2 : s.size ≤ 1000000 := by omega
  have HW := Lib.hid (fun l W (h : RdL W g s l) => whole_any g s l W h hs2)
  have HD := Lib.hid (fun l W (h : RdL W g s l) => digits_any g s l W h hs2)
  have HT := Lib.hid (fun b l W (h : RdL W g s l) => take_any g s b l W h hs2)
  have HX := Lib.hid (fun l W (h : RdL W g s l) => exponent_any g s l W h hs2)
  have H0 := Lib.hid (show pMag l = none by simp [pMag, pTail, h1, h2, h3, h4, h5, h6])
  have ho : off 47 (past l) = past l := by simp [off, h2]
  have ho2 : off 46 (past l) = (past l).tail := by simp [off, h3]
  have ho3 : off 101 (past (past l).tail) = (past (past l).tail).tail := by simp [off, h5]
  have hl1 := digs_le l
  have hl2 := digs_le (past l).tail
  have hl3 : (past l).tail.length ≤ (past l).length := by simp
  have hDl : (digs l ++ digs (past l).tail).length ≤ 100000 := by rw [List.length_append]; omega
  have hDd : ∀ c ∈ (digs l ++ digs (past l).tail), dgt c = true := app_digits digs_mem digs_mem
  have HF1 := Lib.hid (fun W => fromDigits_any (digs l ++ digs (past l).tail) W hDd (by omega))
  have HDL := Lib.hid (wl_ten (dval_lt hDd))
  have HDM := Lib.hid hDl
  have e1 : (sl (digs (past l).tail)).toList = digs (past l).tail := sl_list _
  have e2 : (sl (digs (past l).tail)).toList.isEmpty = false := by rw [e1]; simpa using h4
  have e3 : ((sl (digs (past l).tail)).toList == []) = false := by rw [e1]; simpa using h4
  have e4 := sl_app (digs l) (digs (past l).tail)
  have e5 := sl_size (digs (past l).tail)
  have e6 : ¬ (9223372036854775807 < (sl (digs l)).size + (sl (digs (past l).tail)).size) := by rw [sl_size, sl_size]; omega
  obtain ⟨K, hK⟩ : ∃ K, K = (digs (past l).tail).length := ⟨_, rfl⟩
  have HK := Lib.hid hK
  rw [← hK] at e5
  have hK2 : K ≤ 100000 := by omega
  have HR1 := Lib.hid (h.below (below_alloc w (.cells #[.slice none 0 0, .slice none 0 0, .bool false, .bool false] 117)))
  have hne : w.heap.size ≠ g := fun e => Nat.lt_irrefl g (e ▸ h.lt)
  have HP1 := Lib.hid (show PB0 (w.alloc (.cells #[.slice none 0 0, .slice none 0 0, .bool false, .bool false] 117)) w.heap.size from heap_alloc_new w _)
  have HG1 := Lib.hid (grown_of_below (below_alloc w (.cells #[.slice none 0 0, .slice none 0 0, .bool false, .bool false] 117)) (some g))
  clear h hs hs2 hlen hl1 hl2 hl3 hDl hDd e1 hK
  go_enter Tryz.func116, Tryz.ntmps116
  go_wp2_with fail
  refine (HW.out l _ HR1.out).mono ?_
  rintro e w2 ⟨rfl, hr, hg⟩
  rw [h1]
  have HR2 := Lib.hid hr
  have HG2 := Lib.hid (grown_trans HG1.out hg)
  have HP2 := Lib.hid (HP1.out.grown hg hne)
  clear hr hg HP1 HG1
  go_wp2_with fail
  refine (HT.out 47 (past l) _ HR2.out).mono ?_
  rintro e w3 ⟨rfl, hr, hg⟩
  rw [h2]
  rw [ho] at hr
  have HR3 := Lib.hid hr
  have HG3 := Lib.hid (grown_trans HG2.out hg)
  have HP3 := Lib.hid (HP2.out.grown hg hne)
  clear hr hg HP2 HG2
  go_wp2_with fail
  refine (HT.out 46 (past l) _ HR3.out).mono ?_
  rintro e w4 ⟨rfl, hr, hg⟩
  rw [h3]
  rw [ho2] at hr
  have HR4 := Lib.hid hr
  have HG4 := Lib.hid (grown_trans HG3.out hg)
  have HP4 := Lib.hid (HP3.out.grown hg hne)
  clear hr hg HP3 HG3
  go_wp2_with fail
  refine (HD.out (past l).tail _ HR4.out).mono ?_
  rintro e w5 ⟨rfl, hr, hg⟩
  have HR5 := Lib.hid hr
  have HG5 := Lib.hid (grown_trans HG4.out hg)
  have HP5 := Lib.hid (HP4.out.grown hg hne)
  clear hr hg HP4 HG4
  go_wp2_with fail
  refine (HT.out 101 (past (past l).tail) _ HR5.out).mono ?_
  rintro e w6 ⟨rfl, hr, hg⟩
  rw [h5]
  rw [ho3] at hr
  have HR6 := Lib.hid hr
  have HG6 := Lib.hid (grown_trans HG5.out hg)
  have HP6 := Lib.hid (HP5.out.grown hg hne)
  clear hr hg HP5 HG5
  go_wp2_with fail
  refine (HX.out _ _ HR6.out).mono ?_
  rintro e w7 ⟨xv, rfl, hx, hg⟩
  rw [h6]
  have HG7 := Lib.hid (grown_trans HG6.out hg)
  have HP7 := Lib.hid (HP6.out.grown hg hne)
  clear hg hx HP6 HG6
  obtain ⟨f0, f1, f2, f3, y0, y1, y2, y3⟩ := HP7.out.facts
  go_wp2
  exact bodyPost_ret (v := .tuple #[.agg #[.slice none 0 0, .slice none 0 0, .bool false, .bool false], .bool false]) (by simp [results, Tryz.results116]; exact run_load4t HP7.out _ _ _ _ _) rfl (RetMag.none_ H0.out HG7.out (Nat.le_refl _) _ _ _ _ _ _)
theorem mag_pg (g : Nat) (s : ByteArray) (l : List UInt8) (w : World) (h : RdL w g s l) (hs : s.size ≤ 100000) (h1 : okW (digs l) = true) (h2 : isHd 47 (past l) = false) (h3 : isHd 46 (past l) = true) (h4 : ¬ digs (past l).tail = []) (h5 : isHd 101 (past (past l).tail) = true) (h6 : pExpOk (past (past l).tail).tail = true) :
    Calls Tryz.prog 116 #[.pointer (some ⟨g, 0, none⟩)] w (RetMag w g s l) := by
  have hlen := h.len
  have hs2 : s.size ≤ 1000000 := by omega
  have HW := Lib.hid (fun l W (h : RdL W g s l) => whole_any g s l W h hs2)
  have HD := Lib.hid (fun l W (h : RdL W g s l) => digits_any g s l W h hs2)
  have HT := Lib.hid (fun b l W (h : RdL W g s l) => take_any g s b l W h hs2)
  have HX := Lib.hid (fun l W (h : RdL W g s l) => exponent_any g s l W h hs2)
  have H0 := Lib.hid (show pMag l = some (dval (digs l ++ digs (past l).tail) * 10 ^ ((-((digs (past l).tail).length : Int)) + pExpV (past (past l).tail).tail).toNat, 10 ^ (-((-((digs (past l).tail).length : Int)) + pExpV (past (past l).tail).tail)).toNat, (pExpR (past (past l).tail).tail)) by simp [pMag, pTail, pFin, h1, h2, h3, h4, h5, h6])
  have ho : off 47 (past l) = past l := by simp [off, h2]
  have ho2 : off 46 (past l) = (past l).tail := by simp [off, h3]
  have ho3 : off 101 (past (past l).tail) = (past (past l).tail).tail := by simp [off, h5]
  have hl1 := digs_le l
  have hl2 := digs_le (past l).tail
  have hl3 : (past l).tail.length ≤ (past l).length := by simp
  have hDl : (digs l ++ digs (past l).tail).length ≤ 100000 := by rw [List.length_append]; omega
  have hDd : ∀ c ∈ (digs l ++ digs (past l).tail), dgt c = true := app_digits digs_mem digs_mem
  have HF1 := Lib.hid (fun W => fromDigits_any (digs l ++ digs (past l).tail) W hDd (by omega))
  have HDL := Lib.hid (wl_ten (dval_lt hDd))
  have HDM := Lib.hid hDl
  have e1 : (sl (digs (past l).tail)).toList = digs (past l).tail := sl_list _
  have e2 : (sl (digs (past l).tail)).toList.isEmpty = false := by rw [e1]; simpa using h4
  have e3 : ((sl (digs (past l).tail)).toList == []) = false := by rw [e1]; simpa using h4
  have e4 := sl_app (digs l) (digs (past l).tail)
  have e5 := sl_size (digs (past l).tail)
  have e6 : ¬ (9223372036854775807 < (sl (digs l)).size + (sl (digs (past l).tail)).size) := by rw [sl_size, sl_size]; omega
  obtain ⟨K, hK⟩ : ∃ K, K = (digs (past l).tail).length := ⟨_, rfl⟩
  have HK := Lib.hid hK
  rw [← hK] at e5
  have hK2 : K ≤ 100000 := by omega
  have hxb : -400 ≤ pExpV (past (past l).tail).tail ∧ pExpV (past (past l).tail).tail ≤ 400 := by
    have := h6
    unfold pExpOk at this
    unfold pExpV
    simp at this
    split <;> omega
  obtain ⟨X, hX⟩ : ∃ X, X = pExpV (past (past l).tail).tail := ⟨_, rfl⟩
  rw [← hX] at hxb
  have HX2 := Lib.hid hX
  have HR1 := Lib.hid (h.below (below_alloc w (.cells #[.slice none 0 0, .slice none 0 0, .bool false, .bool false] 117)))
  have hne : w.heap.size ≠ g := fun e => Nat.lt_irrefl g (e ▸ h.lt)
  have HP1 := Lib.hid (show PB0 (w.alloc (.cells #[.slice none 0 0, .slice none 0 0, .bool false, .bool false] 117)) w.heap.size from heap_alloc_new w _)
  have HG1 := Lib.hid (grown_of_below (below_alloc w (.cells #[.slice none 0 0, .slice none 0 0, .bool false, .bool false] 117)) (some g))
  clear h hs hs2 hlen hl1 hl2 hl3 hDl hDd e1 hK hX
  go_enter Tryz.func116, Tryz.ntmps116
  go_wp2_with fail
  refine (HW.out l _ HR1.out).mono ?_
  rintro e w2 ⟨rfl, hr, hg⟩
  rw [h1]
  have HR2 := Lib.hid hr
  have HG2 := Lib.hid (grown_trans HG1.out hg)
  have HP2 := Lib.hid (HP1.out.grown hg hne)
  clear hr hg HP1 HG1
  go_wp2_with fail
  refine (HT.out 47 (past l) _ HR2.out).mono ?_
  rintro e w3 ⟨rfl, hr, hg⟩
  rw [h2]
  rw [ho] at hr
  have HR3 := Lib.hid hr
  have HG3 := Lib.hid (grown_trans HG2.out hg)
  have HP3 := Lib.hid (HP2.out.grown hg hne)
  clear hr hg HP2 HG2
  go_wp2_with fail
  refine (HT.out 46 (past l) _ HR3.out).mono ?_
  rintro e w4 ⟨rfl, hr, hg⟩
  rw [h3]
  rw [ho2] at hr
  have HR4 := Lib.hid hr
  have HG4 := Lib.hid (grown_trans HG3.out hg)
  have HP4 := Lib.hid (HP3.out.grown hg hne)
  clear hr hg HP3 HG3
  go_wp2_with fail
  refine (HD.out (past l).tail _ HR4.out).mono ?_
  rintro e w5 ⟨rfl, hr, hg⟩
  have HR5 := Lib.hid hr
  have HG5 := Lib.hid (grown_trans HG4.out hg)
  have HP5 := Lib.hid (HP4.out.grown hg hne)
  clear hr hg HP4 HG4
  go_wp2_with fail
  refine (HT.out 101 (past (past l).tail) _ HR5.out).mono ?_
  rintro e w6 ⟨rfl, hr, hg⟩
  rw [h5]
  rw [ho3] at hr
  have HR6 := Lib.hid hr
  have HG6 := Lib.hid (grown_trans HG5.out hg)
  have HP6 := Lib.hid (HP5.out.grown hg hne)
  clear hr hg HP5 HG5
  go_wp2_with fail
  refine (HX.out _ _ HR6.out).mono ?_
  rintro e w7 ⟨xv, rfl, hx, hg⟩
  rw [h6]
  obtain ⟨hx1, hr⟩ := hx h6
  rw [← HX2.out] at hx1
  subst hx1
  have HR7 := Lib.hid hr
  have HG7 := Lib.hid (grown_trans HG6.out hg)
  have HP7 := Lib.hid (HP6.out.grown hg hne)
  clear hr hg hx HP6 HG6
  go_wp2_with fail
  refine (HF1.out _).mono ?_
  rintro e w8 ⟨v8, rfl, hv8, hb⟩
  obtain ⟨A8, n8, c8, rfl, -⟩ := hv8.ex
  have HV8 := Lib.hid hv8
  have HR8 := Lib.hid (HR7.out.below hb)
  have HG8 := Lib.hid (grown_trans HG7.out (grown_of_below hb (some g)))
  have HP8 := Lib.hid (HP7.out.below hb)
  have HB8 := Lib.hid hb
  clear hv8 hb HP7 HG7
  go_wp2_with fail
  refine (power_any _ _ (by omega) (by omega)).mono ?_
  rintro e w9 ⟨v9, rfl, hv9, hb⟩
  obtain ⟨A9, n9, c9, rfl, -⟩ := hv9.ex
  have HV9 := Lib.hid hv9
  have HR9 := Lib.hid (HR8.out.below hb)
  have HG9 := Lib.hid (grown_trans HG8.out (grown_of_below hb (some g)))
  have HP9 := Lib.hid (HP8.out.below hb)
  have HB9 := Lib.hid hb
  clear hv9 hb HP8 HG8
  go_wp2_with fail
  refine (mul_any _ _ _ _ _ (HV8.out.below HB9.out) HV9.out (Nat.lt_of_le_of_lt (Nat.add_le_add HDL.out (wl_ten1 _)) (by have := HDM.out; omega))).mono ?_
  rintro e w10 ⟨v10, rfl, hv10, hb⟩
  obtain ⟨A10, n10, c10, rfl, -⟩ := hv10.ex
  have HV10 := Lib.hid hv10
  have HR10 := Lib.hid (HR9.out.below hb)
  have HG10 := Lib.hid (grown_trans HG9.out (grown_of_below hb (some g)))
  have HP10 := Lib.hid (HP9.out.below hb)
  have HB10 := Lib.hid hb
  clear hv10 hb HP9 HG9
  go_wp2_with fail
  refine (power_any _ _ (by omega) (by omega)).mono ?_
  rintro e w11 ⟨v11, rfl, hv11, hb⟩
  obtain ⟨A11, n11, c11, rfl, -⟩ := hv11.ex
  have HV11 := Lib.hid hv11
  have HR11 := Lib.hid (HR10.out.below hb)
  have HG11 := Lib.hid (grown_trans HG10.out (grown_of_below hb (some g)))
  have HP11 := Lib.hid (HP10.out.below hb)
  have HB11 := Lib.hid hb
  clear hv11 hb HP10 HG10
  obtain ⟨f0, f1, f2, f3, y0, y1, y2, y3⟩ := HP11.out.facts
  go_wp2
  exact bodyPost_ret (v := .tuple #[.agg #[.slice A10 n10 c10, .slice A11 n11 c11, .bool false, .bool false], .bool true]) (by simp [results, Tryz.results116]; exact run_load4t HP11.out _ _ _ _ _) rfl (RetMag.some_ H0.out HG11.out (Nat.le_refl _) HP11.out hne ((HV10.out.below HB11.out).of_eq (by congr 2; have h1 := HK.out; have h2 := HX2.out; omega)) (HV11.out.of_eq (by congr 1; have h1 := HK.out; have h2 := HX2.out; omega)) HR11.out)
end Go.Proofs.YtphlmmjlpbledaaGreatDoor
