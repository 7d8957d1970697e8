import Derived.Deep.DeepCutAuto
import Derived.IntWalk
import Derived.Test.YtphlmmjlpbledaaGreatDoorK42
import Derived.Test.YtphlmmjlpbledaaGreatDoorK43
set_option linter.unusedSimpArgs false
set_option linter.unusedVariables false
namespace Go.Proofs.YtphlmmjlpbledaaGreatDoor
open Go.RowKit
set_option maxRecDepth 100000
theorem char_at {l t : List UInt8} {p : Nat} {c : UInt8} (h : l.drop p = c :: t) : ∃ hk : p < (sl l).size, (sl l)[p]'hk = c := by
  have hp : p < l.length := by
    rcases Nat.lt_or_ge p l.length with h' | h'
    · exact h'
    · rw [List.drop_of_length_le h'] at h; cases h
  refine ⟨by rw [sl_size]; exact hp, ?_⟩
  have h2 := List.drop_eq_getElem_cons hp
  rw [h] at h2
  injection h2 with h3 h4
  exact h3.symm
theorem char_ne {c : UInt8} {x : Nat} (h : c.toNat ≠ x) : ((c.toNat : Int) == (x : Int)) = false := by simp; omega
theorem ext_from (l : List UInt8) (a L : Nat) (h : L = l.length) : (sl l).extract a L = sl (l.drop a) := by
  rw [sl_extract, sl_data, h, List.take_of_length_le (by rw [List.length_drop]; exact Nat.le_refl _)]
theorem ext_to (l : List UInt8) (b : Nat) : (sl l).extract 0 b = sl (l.take b) := by rw [sl_extract, sl_data]; simp
theorem ext_mid (l : List UInt8) (a b k : Nat) (h : b = a + k) : (sl l).extract a b = sl ((l.drop a).take k) := by rw [sl_extract, sl_data, h, Nat.add_sub_cancel_left]
theorem rW_digs (l : List UInt8) : ∀ c ∈ l.take (rW l), dgt c = true := by
  have h : rW l ≤ (digs l).length := by unfold rW; split <;> simp_all <;> omega
  intro c hc
  have : l.take (rW l) = (digs l).take (rW l) := by
    have e := List.take_append_of_le_length (l₂ := past l) h
    rwa [digs_past l] at e
  rw [this] at hc
  exact digs_mem c (List.mem_of_mem_take hc)
def RetN (w : World) (e : Ending) (w' : World) : Prop := (∃ A n c A' n' c', e = .returned (.tuple #[.slice A n c, .slice A' n' c', .int .i64 0])) ∧ Below w.heap.size w w'
def RetS (w : World) (a d n : Nat) (e : Ending) (w' : World) : Prop := ∃ v u, e = .returned (.tuple #[v, u, .int .i64 (n : Int)]) ∧ IsNat w' v a ∧ IsNat w' u d ∧ Below w.heap.size w w'
set_option maxHeartbeats 1000000 in
theorem rmag_A (l : List UInt8) (w : World) (hs : l.length ≤ 100000)  (hn : rW l = 0) :
    Calls Tryz.prog 56 #[.string (sl l)] w (RetN w) := by
  have hsz := sl_size l
  obtain ⟨L, hL⟩ : ∃ L, L = l.length := ⟨_, rfl⟩
  rw [← hL] at hsz
  have hLs : L ≤ 100000 := by omega
  have HW := hid (fun (t : List UInt8) W (h : t.length ≤ 100000) => rwhole_any t W (by omega))
  have HDg := hid (fun (t : List UInt8) W (h : t.length ≤ 100000) => rdigits_any t W (by omega))
  have HRd := hid (fun (t : List UInt8) W (hd : ∀ c ∈ t, dgt c = true) (h : t.length ≤ 200000) => rread_any t W hd (by omega))
  have HN := hid hn
  have hs2 : l.length ≤ 100000 := hs
  clear hn hs hL
  go_enter Tryz.func56, Tryz.ntmps56
  go_wp2_with fail
  refine (HW.out l _ hs2).mono ?_
  rintro e wz ⟨rfl, rfl⟩
  rw [HN.out]
  go_wp2
  go_ret3
  exact ⟨⟨_, _, _, _, _, _, rfl⟩, Below.refl _ _⟩
set_option maxHeartbeats 1000000 in
theorem rmag_B (l : List UInt8) (w : World) (hs : l.length ≤ 100000) (n k : Nat) (t : List UInt8) (hn : rW l = n) (h0 : 0 < n) (hr : l.drop n = 47 :: t) (hk : rW t = k) (hk0 : k = 0) :
    Calls Tryz.prog 56 #[.string (sl l)] w (RetN w) := by
  have hsz := sl_size l
  obtain ⟨L, hL⟩ : ∃ L, L = l.length := ⟨_, rfl⟩
  rw [← hL] at hsz
  have hLs : L ≤ 100000 := by omega
  have HW := hid (fun (t : List UInt8) W (h : t.length ≤ 100000) => rwhole_any t W (by omega))
  have HDg := hid (fun (t : List UInt8) W (h : t.length ≤ 100000) => rdigits_any t W (by omega))
  have HRd := hid (fun (t : List UInt8) W (hd : ∀ c ∈ t, dgt c = true) (h : t.length ≤ 200000) => rread_any t W hd (by omega))
  obtain ⟨m, hm⟩ : ∃ m, m = n + 1 := ⟨_, rfl⟩
  have hdm : l.drop m = t := by rw [hm, ← List.drop_drop, hr]; rfl
  have hr1 : (n : Int) + 1 = (m : Int) := by omega
  have hx2 := ext_from l m L hL
  rw [hdm] at hx2
  have htl : t.length + m = L := by have := congrArg List.length hr; rw [List.length_drop, ← hL] at this; simp at this; omega
  have hmL : m ≤ L := by omega
  have HTL := hid (show t.length ≤ 100000 by omega)
  have HKK := hid hk
  have HN := hid hn
  have hnL : n ≤ L := by rw [← hn, hL]; exact rW_le l
  have hz : ((n : Int) == 0) = false := by simp; omega
  have hx1 := ext_to l n
  have HD1 := hid (show ∀ c ∈ l.take n, dgt c = true by rw [← hn]; exact rW_digs l)
  have HL1 := hid (show (l.take n).length ≤ 100000 by rw [List.length_take]; omega)
  have hs2 := hs
  obtain ⟨hkn, hcn⟩ := char_at hr
  have hln : n < L := by rw [← hsz]; exact hkn
  have hlni : (n : Int) < (L : Int) := by omega
  have qn47 : ((((sl l)[n]'hkn).toNat : Int) == 47) = true := by rw [hcn]; rfl
  subst hk0
  clear hcn hn hs hr hk hm hdm htl hL
  go_enter Tryz.func56, Tryz.ntmps56
  go_wp2_with fail
  refine (HW.out l _ hs2).mono ?_
  rintro e wz ⟨rfl, rfl⟩
  rw [HN.out]
  go_wp2_with fail
  refine (HRd.out _ _ HD1.out (by have := HL1.out; omega)).mono ?_
  rintro e w1 ⟨v1, rfl, hv, hb⟩
  obtain ⟨A1, n1, c1, rfl, -⟩ := hv.ex
  have HV1 := hid hv
  have HB1 := hid hb
  clear hv hb
  have HBB1 := HB1
  go_wp2_with fail
  refine (HW.out t _ HTL.out).mono ?_
  rintro e wz ⟨rfl, rfl⟩
  rw [HKK.out]
  go_wp2
  go_ret3
  exact ⟨⟨_, _, _, _, _, _, rfl⟩, below_trans HB1.out (below_alloc _ _)⟩
set_option maxHeartbeats 1000000 in
theorem rmag_C (l : List UInt8) (w : World) (hs : l.length ≤ 100000) (n k : Nat) (t : List UInt8) (hn : rW l = n) (h0 : 0 < n) (hr : l.drop n = 47 :: t) (hk : rW t = k) (hk0 : 0 < k) :
    Calls Tryz.prog 56 #[.string (sl l)] w (RetS w (dval (l.take n)) (dval (t.take k)) (n + 1 + k)) := by
  have hsz := sl_size l
  obtain ⟨L, hL⟩ : ∃ L, L = l.length := ⟨_, rfl⟩
  rw [← hL] at hsz
  have hLs : L ≤ 100000 := by omega
  have HW := hid (fun (t : List UInt8) W (h : t.length ≤ 100000) => rwhole_any t W (by omega))
  have HDg := hid (fun (t : List UInt8) W (h : t.length ≤ 100000) => rdigits_any t W (by omega))
  have HRd := hid (fun (t : List UInt8) W (hd : ∀ c ∈ t, dgt c = true) (h : t.length ≤ 200000) => rread_any t W hd (by omega))
  obtain ⟨m, hm⟩ : ∃ m, m = n + 1 := ⟨_, rfl⟩
  have hdm : l.drop m = t := by rw [hm, ← List.drop_drop, hr]; rfl
  have hr1 : (n : Int) + 1 = (m : Int) := by omega
  have hx2 := ext_from l m L hL
  rw [hdm] at hx2
  have htl : t.length + m = L := by have := congrArg List.length hr; rw [List.length_drop, ← hL] at this; simp at this; omega
  have hmL : m ≤ L := by omega
  have HTL := hid (show t.length ≤ 100000 by omega)
  have HKK := hid hk
  obtain ⟨m2, hm2⟩ : ∃ m2, m2 = m + k := ⟨_, rfl⟩
  have hx3 := ext_mid l m m2 k hm2
  rw [hdm] at hx3
  have hkt : k ≤ t.length := by rw [← hk]; exact rW_le t
  have hr2 : (m : Int) + (k : Int) = (m2 : Int) := by omega
  have hm2L : m2 ≤ L := by omega
  have hmm : m ≤ m2 := by omega
  have hkz : ((k : Int) == 0) = false := by simp; omega
  have HD2 := hid (show ∀ c ∈ t.take k, dgt c = true by rw [← hk]; exact rW_digs t)
  have HE := hid (show m2 = n + 1 + k by omega)
  have HL2 := hid (show (t.take k).length ≤ 200000 by rw [List.length_take]; omega)
  have HN := hid hn
  have hnL : n ≤ L := by rw [← hn, hL]; exact rW_le l
  have hz : ((n : Int) == 0) = false := by simp; omega
  have hx1 := ext_to l n
  have HD1 := hid (show ∀ c ∈ l.take n, dgt c = true by rw [← hn]; exact rW_digs l)
  have HL1 := hid (show (l.take n).length ≤ 100000 by rw [List.length_take]; omega)
  have hs2 := hs
  obtain ⟨hkn, hcn⟩ := char_at hr
  have hln : n < L := by rw [← hsz]; exact hkn
  have hlni : (n : Int) < (L : Int) := by omega
  have qn47 : ((((sl l)[n]'hkn).toNat : Int) == 47) = true := by rw [hcn]; rfl
  clear hcn hn hs hr hk hm hdm htl hL hm2 hkt
  go_enter Tryz.func56, Tryz.ntmps56
  go_wp2_with fail
  refine (HW.out l _ hs2).mono ?_
  rintro e wz ⟨rfl, rfl⟩
  rw [HN.out]
  go_wp2_with fail
  refine (HRd.out _ _ HD1.out (by have := HL1.out; omega)).mono ?_
  rintro e w1 ⟨v1, rfl, hv, hb⟩
  obtain ⟨A1, n1, c1, rfl, -⟩ := hv.ex
  have HV1 := hid hv
  have HB1 := hid hb
  clear hv hb
  have HBB1 := HB1
  go_wp2_with fail
  refine (HW.out t _ HTL.out).mono ?_
  rintro e wz ⟨rfl, rfl⟩
  rw [HKK.out]
  go_wp2_with fail
  refine (HRd.out _ _ HD2.out HL2.out).mono ?_
  rintro e w2 ⟨v2, rfl, hv, hb⟩
  obtain ⟨A2, n2, c2, rfl, -⟩ := hv.ex
  have HV2 := hid hv
  have HB2 := hid hb
  clear hv hb
  go_wp2
  go_ret3
  exact ⟨_, _, by rw [← HE.out]; rfl, HV1.out.below (below_trans (below_alloc _ _) HB2.out), HV2.out, below_trans HB1.out (below_trans (below_alloc _ _) HB2.out)⟩
theorem mem_take_at {v : List UInt8} {j k : Nat} (hj : j < v.length) (hjk : j < k) : v[j] ∈ v.take k := by
  have h9 : j < (v.take k).length := by rw [List.length_take]; omega
  have := List.getElem_mem h9
  rwa [List.getElem_take] at this
theorem sl_plus (l m : List UInt8) : sl l ++ sl m = sl (l ++ m) := ByteArray.mk_append_mk l m
theorem digs_all (t : List UInt8) {k : Nat} (h : (digs t).length = k) : ∀ c ∈ t.take k, dgt c = true := by
  rw [← h, (take_digs t).1]
  exact digs_mem
theorem nat_ne {c : UInt8} {x : Nat} (hx : x < 256) (h : c ≠ UInt8.ofNat x) : c.toNat ≠ x := fun e => h (by
  apply UInt8.toNat_inj.1
  rw [e]
  simp
  omega)
def RetRM (w : World) (o : Option (Nat × Nat × Nat)) (e : Ending) (w' : World) : Prop := match o with
  | none => RetN w e w'
  | some (a, d, n) => RetS w a d n e w'
theorem RetRM.no {w w' : World} {e : Ending} {o : Option (Nat × Nat × Nat)} (h : RetN w e w') (ho : o = none) : RetRM w o e w' := by subst ho; exact h
theorem RetRM.yes {w w' : World} {e : Ending} {o : Option (Nat × Nat × Nat)} {a d n : Nat} (h : RetS w a d n e w') (ho : o = some (a, d, n)) : RetRM w o e w' := by subst ho; exact h
theorem rT_plain {a d n : Nat} {r : List UInt8} (h : isHd 101 r = false) : rT a d n r = some (a, d, n) := by unfold rT; rw [h]; rfl
theorem rT_none {a d n : Nat} {r : List UInt8} (h : rE r = none) : rT a d n (101 :: r) = none := by
  unfold rT
  rw [isHd_self, if_pos rfl, List.tail_cons, h]
theorem rE_0 {l : List UInt8} (h : rW (off 45 l) = 0) : rE l = none := by unfold rE; rw [if_pos (.inl h)]
theorem rE_b {l : List UInt8} (h : 3 < rW (off 45 l)) : rE l = none := by unfold rE; rw [if_pos (.inr h)]
theorem rE_G {l : List UInt8} (h : 0 < rW (off 45 l) ∧ rW (off 45 l) ≤ 3) (h4 : 400 < dval ((off 45 l).take (rW (off 45 l)))) : rE l = none := by unfold rE; rw [if_neg (by omega), if_pos h4]
theorem rT_H {a d n x k : Nat} {b : Bool} {r : List UInt8} (hb : isHd 45 r = b) (hk : rW (off 45 r) = k) (h : 0 < k ∧ k ≤ 3) (hx : dval ((off 45 r).take k) = x) (h4 : x ≤ 400) :
    rT a d n (101 :: r) = some (if b then a else a * 10 ^ x, if b then d * 10 ^ x else d, n + 1 + ((if b then 1 else 0) + k)) := by
  have hE : rE r = some (b, x, (if b then 1 else 0) + k) := by unfold rE; rw [hk, hx, hb, if_neg (by omega), if_neg (by omega)]
  unfold rT
  rw [isHd_self, if_pos rfl, List.tail_cons, hE]
theorem off_ne {c : UInt8} {tl : List UInt8} (h : c ≠ 45) : off 45 (c :: tl) = c :: tl ∧ isHd 45 (c :: tl) = false := by
  have := isHd_ne h tl
  exact ⟨off_neg this, this⟩
def RMid (w : World) (l : List UInt8) (s5 s6 s7 : Value) (wx : World) : Prop := ∃ (m a d : Nat) (q : List UInt8), s5 = .int .i64 (m : Int) ∧ IsNat wx s6 a ∧ IsNat wx s7 d ∧ l.drop m = q ∧ m ≤ l.length ∧ rM l = rT a d m q ∧ wl a ≤ 200000 ∧ wl d ≤ 200001 ∧ Below w.heap.size w wx
def RSgn (l u : List UInt8) (at_ : Nat) (w : World) (s10 s11 : Value) (wx : World) : Prop := ∃ (p : Nat) (b : Bool), s10 = .int .i64 (p : Int) ∧ s11 = .bool b ∧ isHd 45 u = b ∧ l.drop p = off 45 u ∧ p ≤ l.length ∧ p = at_ + (if b then 1 else 0) ∧ wx = w
theorem some3 {a b c a' b' c' : Nat} (h1 : a = a') (h2 : b = b') (h3 : c = c') : some (a, b, c) = some (a', b', c') := by subst h1 h2 h3; rfl
theorem rW_nil : rW [] = 0 := rfl
set_option maxHeartbeats 1000000 in
theorem rmag_we (l : List UInt8) (w : World) (hs : l.length ≤ 100000) (n : Nat) (hn : rW l = n) (h0 : 0 < n) (hr : l.drop n = []) :
    Calls Tryz.prog 56 #[.string (sl l)] w (RetS w (dval (l.take n)) 1 n) := by
  have hsz := sl_size l
  obtain ⟨L, hL⟩ : ∃ L, L = l.length := ⟨_, rfl⟩
  rw [← hL] at hsz
  have hLs : L ≤ 100000 := by omega
  have HW := hid (fun (t : List UInt8) W (h : t.length ≤ 100000) => rwhole_any t W (by omega))
  have HDg := hid (fun (t : List UInt8) W (h : t.length ≤ 100000) => rdigits_any t W (by omega))
  have HRd := hid (fun (t : List UInt8) W (hd : ∀ c ∈ t, dgt c = true) (h : t.length ≤ 200000) => rread_any t W hd (by omega))
  have HN := hid hn
  have hnL : n ≤ L := by rw [← hn, hL]; exact rW_le l
  have hz : ((n : Int) == 0) = false := by simp; omega
  have hx1 := ext_to l n
  have HD1 := hid (show ∀ c ∈ l.take n, dgt c = true by rw [← hn]; exact rW_digs l)
  have HL1 := hid (show (l.take n).length ≤ 100000 by rw [List.length_take]; omega)
  have hs2 := hs
  have hnL : n = L := by have := congrArg List.length hr; rw [List.length_drop, ← hL] at this; simp at this; omega
  have hln : ¬ n < L := by omega
  have hlni : ¬ (n : Int) < (L : Int) := by omega
  clear hnL hn hs hr hL
  go_enter Tryz.func56, Tryz.ntmps56
  go_wp2_with fail
  refine (HW.out l _ hs2).mono ?_
  rintro e wz ⟨rfl, rfl⟩
  rw [HN.out]
  go_wp2_with fail
  refine (HRd.out _ _ HD1.out (by have := HL1.out; omega)).mono ?_
  rintro e w1 ⟨v1, rfl, hv, hb⟩
  obtain ⟨A1, n1, c1, rfl, -⟩ := hv.ex
  have HV1 := hid hv
  have HB1 := hid hb
  clear hv hb
  have HBB1 := HB1
  go_wp2
  go_ret3
  exact ⟨_, _, rfl, (HV1.out.below (below_alloc _ _)), (oneNat w1), (below_trans HB1.out (below_alloc _ _))⟩
set_option maxHeartbeats 1000000 in
theorem rmag_main (l : List UInt8) (w : World) (hs : l.length ≤ 100000) (n : Nat) (c : UInt8) (t : List UInt8) (hn : rW l = n) (h0 : 0 < n) (hr : l.drop n = c :: t) (c47 : c ≠ 47) :
    Calls Tryz.prog 56 #[.string (sl l)] w (RetRM w (rM l)) := by
  have hsz := sl_size l
  obtain ⟨L, hL⟩ : ∃ L, L = l.length := ⟨_, rfl⟩
  rw [← hL] at hsz
  have hLs : L ≤ 100000 := by omega
  have HW := hid (fun (t : List UInt8) W (h : t.length ≤ 100000) => rwhole_any t W (by omega))
  have HDg := hid (fun (t : List UInt8) W (h : t.length ≤ 100000) => rdigits_any t W (by omega))
  have HRd := hid (fun (t : List UInt8) W (hd : ∀ c ∈ t, dgt c = true) (h : t.length ≤ 200000) => rread_any t W hd (by omega))
  have HN := hid hn
  have HLL := hid hL
  have HR := hid hr
  have hnL : n ≤ L := by rw [← hn, hL]; exact rW_le l
  have hz : ((n : Int) == 0) = false := by simp; omega
  have hx1 := ext_to l n
  have HD1 := hid (show ∀ c ∈ l.take n, dgt c = true by rw [← hn]; exact rW_digs l)
  have HL1 := hid (show (l.take n).length ≤ 100000 by rw [List.length_take]; omega)
  have hs2 := hs
  obtain ⟨hkn, hcn⟩ := char_at hr
  have hln : n < L := by rw [← hsz]; exact hkn
  have hlni : (n : Int) < (L : Int) := by omega
  have qn47 : ((((sl l)[n]'hkn).toNat : Int) == 47) = false := by rw [hcn]; exact char_ne (x := 47) (nat_ne (x := 47) (by omega) c47)
  have HCN := hid hcn
  have HM := hid (show rM l = (if isHd 46 (c :: t) then
      (if (digs t).length = 0 then none
       else rT (dval (l.take n ++ t.take (digs t).length)) (10 ^ (digs t).length) (n + 1 + (digs t).length) (t.drop (digs t).length))
    else rT (dval (l.take n)) 1 n (c :: t)) by unfold rM; rw [hn, if_neg (show ¬ n = 0 by omega), hr, isHd_ne c47, if_neg (by decide)]; rfl)
  clear hn hs hr hL hcn
  go_enter Tryz.func56, Tryz.ntmps56
  go_wp2_with fail
  refine (HW.out l _ hs2).mono ?_
  rintro e wz ⟨rfl, rfl⟩
  rw [HN.out]
  go_wp2_with fail
  refine (HRd.out _ _ HD1.out (by have := HL1.out; omega)).mono ?_
  rintro e w1 ⟨v1, rfl, hv, hb⟩
  obtain ⟨A1, n1, c1, rfl, -⟩ := hv.ex
  have HV1 := hid hv
  have HB1 := hid hb
  clear hv hb
  have HBB1 := HB1
  go_upto_if 64 with fail
  go_cut [5, 6, 7, 9] from 63 to 90 (fun s5 s6 s7 _ wx => RMid w l s5 s6 s7 wx)
  case first =>
    by_cases c46 : c = 46
    · subst c46
      obtain ⟨m, hm⟩ : ∃ m, m = n + 1 := ⟨_, rfl⟩
      have hdm : l.drop m = t := by rw [hm, ← List.drop_drop, HR.out]; rfl
      have hr1 : (n : Int) + 1 = (m : Int) := by omega
      have hx2 := ext_from l m L HLL.out
      rw [hdm] at hx2
      have htl : t.length + m = L := by have := congrArg List.length HR.out; rw [List.length_drop, ← HLL.out] at this; simp at this; omega
      have hmL : m ≤ L := by omega
      have HTL := hid (show t.length ≤ 100000 by omega)
      obtain ⟨k, hk⟩ : ∃ k, (digs t).length = k := ⟨_, rfl⟩
      have HKK := hid hk
      have HM2 := HM.out
      rw [isHd_self, if_pos rfl, hk] at HM2
      have HM3 := hid HM2
      clear HM HM2
      have q46 : ((((sl l)[n]'hkn).toNat : Int) == 46) = true := by rw [HCN.out]; rfl
      rcases Nat.eq_zero_or_pos k with k0 | k0
      · subst k0
        have HM4 := hid (HM3.out.trans (if_pos rfl))
        clear hm hdm htl hk HM3
        go_wp2_with fail
        refine (HDg.out t _ HTL.out).mono ?_
        rintro e wz ⟨rfl, rfl⟩
        rw [HKK.out]
        go_wp2
        go_ret3
        exact RetRM.no ⟨⟨_, _, _, _, _, _, rfl⟩, below_trans HB1.out (below_alloc _ _)⟩ HM4.out
      · have HM4 := hid (HM3.out.trans (if_neg (Nat.ne_of_gt k0)))
        obtain ⟨m2, hm2⟩ : ∃ m2, m2 = m + k := ⟨_, rfl⟩
        have hkt : k ≤ t.length := by have := digs_len t; omega
        have hr2 : (m : Int) + (k : Int) = (m2 : Int) := by omega
        have hm2L : m2 ≤ L := by omega
        have hmm : m ≤ m2 := by omega
        have hkz : ((k : Int) == 0) = false := by simp; omega
        have hk6 : k ≤ 1000000 := by omega
        have hwm : IntKind.i64.wrap (m : Int) = (m : Int) := IntWalk.i64_in _ (by omega)
        have hwm2 : IntKind.i64.wrap (m2 : Int) = (m2 : Int) := IntWalk.i64_in _ (by omega)
        have hx3 := ext_mid l m m2 k hm2
        rw [hdm] at hx3
        have hcat := sl_plus (l.take n) (t.take k)
        have hc6 : ¬ (9223372036854775807 < (sl (l.take n)).size + (sl (t.take k)).size) := by rw [sl_size, sl_size, List.length_take, List.length_take]; omega
        have HD2 := hid (show ∀ c ∈ l.take n ++ t.take k, dgt c = true from fun c hc => (List.mem_append.1 hc).elim (HD1.out c) (digs_all t hk c))
        have HL2 := hid (show (l.take n ++ t.take k).length ≤ 200000 by rw [List.length_append, List.length_take, List.length_take]; omega)
        have HDM := hid (show l.drop m2 = t.drop k by rw [hm2, ← List.drop_drop, hdm])
        have HM2E := hid (show m2 = n + 1 + k by omega)
        have HM2L := hid (show m2 ≤ l.length by rw [← HLL.out]; exact hm2L)
        clear hm hm2 hdm htl hkt hk
        clear HM3
        go_wp2_with fail
        refine (HDg.out t _ HTL.out).mono ?_
        rintro e wz ⟨rfl, rfl⟩
        rw [HKK.out]
        go_upto_region 14 with fail
        refine region_lin [.val (kIs (.string (sl l))), .val (kIs (.int .i64 (n : Int))), .val (kIs (.string (sl (l.take n)))), .val (kIs (.string (sl l))), .val (kIs (.int .i64 (n : Int))), .val (kIs (.int .i64 (m : Int))), .val (kIs (.int .i64 (n : Int))), .val (kIs (.int .i64 (m : Int))), .val (kIs (.int .i64 (k : Int))), .val (kIs (.int .i64 (m2 : Int))), .val (kIs (.string (sl (t.take k)))), .val (kIs (.string (sl (l.take n ++ t.take k)))), .val (kNat (dval (l.take n ++ t.take k))), .val (kIs (.int .i64 (k : Int))), .val (kNat (10 ^ k)), .val (kNat (dval (l.take n ++ t.take k))), .val (kNat (10 ^ k))]
          (by kernel_rfl) (by kernel_rfl) (by kernel_rfl) (by kernel_rfl) (by kernel_rfl) ⟨Stab.b (stab_is _), Stab.b (stab_is _), Stab.b (stab_is _), Stab.b (stab_is _), Stab.b (stab_is _), Stab.b (stab_is _), Stab.b (stab_is _), Stab.b (stab_is _), Stab.b (stab_is _), Stab.b (stab_is _), Stab.b (stab_is _), Stab.b (stab_is _), stabB_nat _, Stab.b (stab_is _), stabB_nat _, stabB_nat _, stabB_nat _, trivial⟩ (by simp) ⟨?_, ?_, ?_, ?_, ?_, ?_, ?_, ?_, ?_, ?_, ?_, ?_, ?_, ?_, ?_, ?_, ?_, trivial⟩ ?_
        · exact obp
        · exact obp
        · intro ts W hb hB hp; have h0 : ts 0 = _ := hp 0 (by kernel_rfl); have h1 : ts 1 = _ := hp 1 (by kernel_rfl); intro K hK; simp only [fillT, Nat.zero_add, Nat.reduceAdd, sA, sB, sC, h0, h1] at hK ⊢; have HK := hid hK; clear hK hp; refine ⟨?_⟩; go_simp; exact HK.out _ _ rfl rfB
        · exact obp
        · exact obp
        · intro ts W hb hB hp; have h4 : ts 4 = _ := hp 4 (by kernel_rfl); intro K hK; simp only [fillT, Nat.zero_add, Nat.reduceAdd, sA, sB, sC, h4] at hK ⊢; have HK := hid hK; clear hK hp; refine ⟨?_⟩; go_simp; exact HK.out _ _ rfl rfB
        · exact obp
        · intro ts W hb hB hp; have h6 : ts 6 = _ := hp 6 (by kernel_rfl); intro K hK; simp only [fillT, Nat.zero_add, Nat.reduceAdd, sA, sB, sC, h6] at hK ⊢; have HK := hid hK; clear hK hp; refine ⟨?_⟩; go_simp; exact HK.out _ _ rfl rfB
        · exact obp
        · intro ts W hb hB hp; have h7 : ts 7 = _ := hp 7 (by kernel_rfl); have h8 : ts 8 = _ := hp 8 (by kernel_rfl); intro K hK; simp only [fillT, Nat.zero_add, Nat.reduceAdd, sA, sB, sC, h7, h8] at hK ⊢; have HK := hid hK; clear hK hp; refine ⟨?_⟩; go_simp; exact HK.out _ _ rfl rfB
        · intro ts W hb hB hp; have h3 : ts 3 = _ := hp 3 (by kernel_rfl); have h5 : ts 5 = _ := hp 5 (by kernel_rfl); have h9 : ts 9 = _ := hp 9 (by kernel_rfl); intro K hK; simp only [fillT, Nat.zero_add, Nat.reduceAdd, sA, sB, sC, h3, h5, h9] at hK ⊢; have HK := hid hK; clear hK hp; refine ⟨?_⟩; go_simp; exact HK.out _ _ rfl rfB
        · intro ts W hb hB hp; have h2 : ts 2 = _ := hp 2 (by kernel_rfl); have h10 : ts 10 = _ := hp 10 (by kernel_rfl); intro K hK; simp only [fillT, Nat.zero_add, Nat.reduceAdd, sA, sB, sC, h2, h10] at hK ⊢; have HK := hid hK; clear hK hp; refine ⟨?_⟩; go_simp; exact HK.out _ _ rfl rfB
        · intro ts W hb hB hp; have h11 : ts 11 = _ := hp 11 (by kernel_rfl); intro K hK; simp only [fillT, Nat.zero_add, Nat.reduceAdd, sA, sB, sC, h11] at hK ⊢; have HK := hid hK; clear hK hp; refine ⟨?_⟩; go_simp; refine (HRd.out _ W HD2.out HL2.out).mono ?_; rintro e W9 ⟨r9, rfl, hr9, hb9⟩; exact HK.out _ _ hr9 hb9
        · exact obp
        · intro ts W hb hB hp; have h13 : ts 13 = _ := hp 13 (by kernel_rfl); intro K hK; simp only [fillT, Nat.zero_add, Nat.reduceAdd, sA, sB, sC, h13] at hK ⊢; have HK := hid hK; clear hK hp; refine ⟨?_⟩; go_simp; refine (rpower_any k W hk6).mono ?_; rintro e W9 ⟨r9, rfl, hr9, hb9⟩; exact HK.out _ _ hr9 hb9
        · intro ts W hb hB hp; have h12 := hp 12 (by kernel_rfl); intro K hK; simp only [fillT, Nat.zero_add, Nat.reduceAdd, sA, sB, sC] at hK ⊢; have HK := hid hK; clear hK hp; refine ⟨?_⟩; go_simp; exact HK.out _ _ h12 rfB
        · intro ts W hb hB hp; have h14 := hp 14 (by kernel_rfl); intro K hK; simp only [fillT, Nat.zero_add, Nat.reduceAdd, sA, sB, sC] at hK ⊢; have HK := hid hK; clear hK hp; refine ⟨?_⟩; go_simp; exact HK.out _ _ h14 rfB
        intro ts W2 hb2 hh hap
        have hva : IsNat W2 (ts 15) (dval (l.take n ++ t.take k)) := hh 15 (by simp)
        have hvd : IsNat W2 (ts 16) (10 ^ k) := hh 16 (by simp)
        simp only [fillT, Nat.zero_add, Nat.reduceAdd, sA, sB, sC]
        have HVA := hid hva
        have HVD := hid hvd
        have HBP := hid (below_trans HB1.out (below_trans (below_alloc _ _) hb2))
        clear hh hap hva hvd hb2
        generalize ts 0 = u0_2 at *
        generalize ts 1 = u1_2 at *
        generalize ts 2 = u2_2 at *
        generalize ts 3 = u3_2 at *
        generalize ts 4 = u4_2 at *
        generalize ts 5 = u5_2 at *
        generalize ts 6 = u6_2 at *
        generalize ts 7 = u7_2 at *
        generalize ts 8 = u8_2 at *
        generalize ts 9 = u9_2 at *
        generalize ts 10 = u10_2 at *
        generalize ts 11 = u11_2 at *
        generalize ts 12 = u12_2 at *
        generalize ts 13 = u13_2 at *
        generalize ts 14 = u14_2 at *
        generalize ts 15 = va at *
        generalize ts 16 = vd at *
        go_wp2
        go_meet
        exact ⟨m2, _, _, _, rfl, HVA.out, HVD.out, HDM.out, HM2L.out, by rw [HM4.out, HM2E.out], by have h1 := wl_ten (dval_lt HD2.out); have h2 := HL2.out; omega, by have := wl_ten1 k; omega, HBP.out⟩
    · have HM3 := HM.out
      rw [isHd_ne c46, if_neg (by decide)] at HM3
      have HM4 := hid HM3
      have q46 : ((((sl l)[n]'hkn).toNat : Int) == 46) = false := by rw [HCN.out]; exact char_ne (x := 46) (nat_ne (x := 46) (by omega) c46)
      clear HM3
      go_wp2
      go_meet
      exact ⟨n, _, _, _, rfl, (HV1.out.below (below_alloc _ _)), oneNat w1, HR.out, by rw [← HLL.out]; exact hnL, HM4.out, by have h1 := wl_ten (dval_lt HD1.out); have h2 := HL1.out; omega, by rw [wl_one]; omega, below_trans HB1.out (below_alloc _ _)⟩
  case rest =>
    obtain ⟨m, a, d, q, rfl, ha, hd, hq, hml, hrm, hwa, hwd, hbx⟩ := hcut
    obtain ⟨A6, n6, c6, rfl, -⟩ := ha.ex
    obtain ⟨A7, n7, c7, rfl, -⟩ := hd.ex
    have HA := hid ha
    have HD := hid hd
    have HB := hid hbx
    have HRM := hid hrm
    have HWA := hid hwa
    have HWD := hid hwd
    have hmL : m ≤ L := by rw [HLL.out]; exact hml
    clear ha hd hbx hrm hwa hwd hml
    rcases q with _ | ⟨cc, u⟩
    · have hm9 : m = L := by have := congrArg List.length hq; rw [List.length_drop, ← HLL.out] at this; simp at this; omega
      have hlm : ¬ m < L := by omega
      have hlmi : ¬ (m : Int) < (L : Int) := by omega
      clear hq hm9
      go_wp2
      go_ret3
      exact RetRM.yes ⟨_, _, rfl, HA.out, HD.out, HB.out⟩ (HRM.out.trans (rT_plain rfl))
    obtain ⟨hkm, hcm⟩ := char_at hq
    have hlm : m < L := by rw [← hsz]; exact hkm
    have hlmi : (m : Int) < (L : Int) := by omega
    have HCM := hid hcm
    have HQ := hid hq
    clear hcm hq
    by_cases c101 : cc = 101
    case neg =>
      have q101 : ((((sl l)[m]'hkm).toNat : Int) == 101) = false := by rw [HCM.out]; exact char_ne (x := 101) (nat_ne (x := 101) (by omega) c101)
      go_wp2
      go_ret3
      exact RetRM.yes ⟨_, _, rfl, HA.out, HD.out, HB.out⟩ (HRM.out.trans (rT_plain (isHd_ne c101 u)))
    subst c101
    have q101 : ((((sl l)[m]'hkm).toNat : Int) == 101) = true := by rw [HCM.out]; rfl
    obtain ⟨at_, hat⟩ : ∃ a, a = m + 1 := ⟨_, rfl⟩
    have hda : l.drop at_ = u := by rw [hat, ← List.drop_drop, HQ.out]; rfl
    have hr3 : (m : Int) + 1 = (at_ : Int) := by omega
    have hatl : u.length + at_ = L := by have := congrArg List.length HQ.out; rw [List.length_drop, ← HLL.out] at this; simp at this; omega
    have hatL : at_ ≤ L := by omega
    rcases u with _ | ⟨c3, u3⟩
    · have hae : at_ = L := by simpa using hatl
      have hla : ¬ at_ < L := by omega
      have hlai : ¬ (at_ : Int) < (L : Int) := by omega
      have hx5 := ext_from l at_ L HLL.out
      rw [hda] at hx5
      have hgt : ¬ (L : Int) < (at_ : Int) := by omega
      clear hat hda hatl hae
      go_wp2_with fail
      refine (HW.out [] _ (by simp)).mono ?_
      rintro e wz ⟨rfl, rfl⟩
      rw [rW_nil]
      go_wp2
      go_ret3
      exact RetRM.no ⟨⟨_, _, _, _, _, _, rfl⟩, HB.out⟩ (HRM.out.trans (rT_none (rE_0 rfl)))
    obtain ⟨hka, hca⟩ := char_at hda
    have hla : at_ < L := by rw [← hsz]; exact hka
    have hlai : (at_ : Int) < (L : Int) := by omega
    have HCA := hid hca
    have HDA := hid hda
    have HAT := hid hat
    clear hca hda hat hatl
    go_upto_if 113 with fail
    go_cut [10, 11] from 111 to 115 (fun s10 s11 wx => RSgn l (c3 :: u3) at_ wc s10 s11 wx)
    case first =>
      by_cases c45 : c3 = 45
      · subst c45
        have q45 : ((((sl l)[at_]'hka).toNat : Int) == 45) = true := by rw [HCA.out]; rfl
        obtain ⟨at2, hat2⟩ : ∃ a, a = at_ + 1 := ⟨_, rfl⟩
        have HA2 := hid hat2
        have hr4 : (at_ : Int) + 1 = (at2 : Int) := by omega
        clear hat2
        go_wp2
        go_meet
        exact ⟨at2, true, rfl, by rw [q45], rfl, by rw [HA2.out, ← List.drop_drop, HDA.out]; rfl, by have := HA2.out; have := HLL.out; omega, HA2.out, rfl⟩
      · have q45 : ((((sl l)[at_]'hka).toNat : Int) == 45) = false := by rw [HCA.out]; exact char_ne (x := 45) (nat_ne (x := 45) (by omega) c45)
        go_wp2
        go_meet
        exact ⟨at_, false, rfl, by rw [q45], (off_ne c45).2, by rw [(off_ne c45).1]; exact HDA.out, by have := HLL.out; omega, rfl, rfl⟩
    case rest =>
      obtain ⟨p, b, rfl, rfl, hb, hdp, hpl, hpe, rfl⟩ := hcut
      obtain ⟨v, hv⟩ : ∃ v, off 45 (c3 :: u3) = v := ⟨_, rfl⟩
      rw [hv] at hdp
      obtain ⟨k2, hk2⟩ : ∃ k, rW v = k := ⟨_, rfl⟩
      have hpL : p ≤ L := by rw [HLL.out]; exact hpl
      have hgt : ¬ (L : Int) < (p : Int) := by omega
      have hx5 := ext_from l p L HLL.out
      rw [hdp] at hx5
      have HVL := hid (show v.length ≤ 100000 by have := congrArg List.length hdp; rw [List.length_drop, ← HLL.out] at this; omega)
      have HK2 := hid hk2
      have HVE := hid hv
      have HBB := hid hb
      have HPE := hid hpe
      have HDV := hid hdp
      clear hk2 hv hb hpe hdp hpl
      rcases Nat.eq_zero_or_pos k2 with k0 | k0
      · subst k0
        go_wp2_with fail
        refine (HW.out v _ HVL.out).mono ?_
        rintro e wz ⟨rfl, rfl⟩
        rw [HK2.out]
        go_wp2
        go_ret3
        exact RetRM.no ⟨⟨_, _, _, _, _, _, rfl⟩, HB.out⟩ (HRM.out.trans (rT_none (rE_0 (by rw [HVE.out]; exact HK2.out))))
      have hkz2 : ((k2 : Int) == 0) = false := by simp; omega
      by_cases k3 : 3 < k2
      · have hg3 : (3 : Int) < (k2 : Int) := by omega
        go_wp2_with fail
        refine (HW.out v _ HVL.out).mono ?_
        rintro e wz ⟨rfl, rfl⟩
        rw [HK2.out]
        go_wp2
        go_ret3
        exact RetRM.no ⟨⟨_, _, _, _, _, _, rfl⟩, HB.out⟩ (HRM.out.trans (rT_none (rE_b (by rw [HVE.out, HK2.out]; exact k3))))
      have hg3 : ¬ (3 : Int) < (k2 : Int) := by omega
      have hk23 : k2 ≤ 3 := by omega
      obtain ⟨X, hX⟩ : ∃ X, dval (v.take k2) = X := ⟨_, rfl⟩
      obtain ⟨m3, hm3⟩ : ∃ a, a = p + k2 := ⟨_, rfl⟩
      have hr5 : (p : Int) + (k2 : Int) = (m3 : Int) := by omega
      have HKV := hid (show k2 ≤ v.length by rw [← HK2.out]; exact rW_le _)
      have HM3 := hid hm3
      have HVD2 := hid (show ∀ c ∈ v.take k2, dgt c = true by rw [← HK2.out]; exact rW_digs _)
      have HX := hid hX
      clear hm3 hX k3
      go_wp2_with fail
      refine (HW.out v _ HVL.out).mono ?_
      rintro e wz ⟨rfl, rfl⟩
      rw [HK2.out]
      go_wp2_with fail
      go_loop [13, 14] (fun ev iv => ∃ j x ij : Nat, j ≤ k2 ∧ ij = p + j ∧ iv = .int .i64 (ij : Int) ∧ ev = .int .i64 (x : Int) ∧ x = dval (v.take j)) (fun _ iv => m3 - (intOf iv).toNat)
      case atStart => exact ⟨0, 0, p, by omega, rfl, rfl, rfl, rfl⟩
      case round =>
        obtain ⟨j, x, ij, hj, hij, rfl, rfl, hx⟩ := hrel
        by_cases hjk : j < k2
        · have hjv : j < v.length := by have := HKV.out; omega
          have hdj : l.drop ij = (v[j]'hjv) :: v.drop (j + 1) := by rw [hij, ← List.drop_drop, HDV.out]; exact List.drop_eq_getElem_cons hjv
          obtain ⟨hkj, hcj⟩ := char_at hdj
          have hlj : (ij : Int) < (m3 : Int) := by have := HM3.out; omega
          have hlj2 : ij < m3 := by omega
          have hm3L : m3 ≤ L := by have := HM3.out; have := HKV.out; have := congrArg List.length HDV.out; rw [List.length_drop, ← HLL.out] at this; omega
          have hdg := HVD2.out (v[j]'hjv) (mem_take_at hjv hjk)
          have hst := dval_step hjv
          have hxl : x < 100 := by
            rw [hx]
            have h8 := dval_lt (l := v.take j) (fun c hc => HVD2.out c (by have := List.take_prefix_take_left (l := v) (show j ≤ k2 by omega); exact this.subset hc))
            have h7 : (10 : Nat) ^ (v.take j).length ≤ 10 ^ 2 := Nat.pow_le_pow_right (by omega) (by rw [List.length_take]; omega)
            omega
          rw [← hx] at hst
          rw [← hcj] at hst hdg
          unfold dgt at hdg
          obtain ⟨dd, hd⟩ : ∃ dd, dd = ((sl l)[ij]'hkj).toNat := ⟨_, rfl⟩
          rw [← hd] at hst hdg
          have hd1 : 48 ≤ dd := by simp at hdg; omega
          have hd2 : dd ≤ 57 := by simp at hdg; omega
          have hw8 := sub48 dd hd1 hd2
          have hqd : ((sl l)[ij]'hkj).toNat = dd := hd.symm
          have HST := hid hst
          have HIJ := hid hij
          clear hst hx hd hdg hcj hdj hij
          go_wp2
          go_round
          case rel => exact ⟨j + 1, 10 * x + (dd - 48), ij + 1, by omega, by rw [HIJ.out, Nat.add_assoc], by go_num, by congr 1, HST.out.symm⟩
          case measure => simp [intOf]; omega
        · obtain rfl : j = k2 := by omega
          have hije : ij = m3 := by rw [hij]; exact HM3.out.symm
          subst hije
          rw [HX.out] at hx
          subst hx
          have hlj : ¬ (ij : Int) < (ij : Int) := by omega
          clear hij
          by_cases hx4 : 400 < x
          · have h4 : (400 : Int) < (x : Int) := by omega
            go_wp2
            go_ret3
            exact RetRM.no ⟨⟨_, _, _, _, _, _, rfl⟩, HB.out⟩ (HRM.out.trans (rT_none (rE_G (by rw [HVE.out, HK2.out]; exact ⟨k0, hk23⟩) (by rw [HVE.out, HK2.out, HX.out]; exact hx4))))
          have h4 : ¬ (400 : Int) < (x : Int) := by omega
          cases b
          · go_wp2_with fail
            refine (rpower_any x _ (by omega)).mono ?_
            rintro e w8 ⟨v8, rfl, hv8, hb8⟩
            obtain ⟨A8, n8, c8, rfl, -⟩ := hv8.ex
            have HV8 := hid hv8
            have HB8 := hid hb8
            clear hv8 hb8
            go_wp2_with fail
            refine (rNatMul_any _ _ _ (10 ^ x) _ (HA.out.below HB8.out) HV8.out (by have := HWA.out; omega) (by have := wl_ten1 x; omega)).mono ?_
            rintro e w9 ⟨v9, rfl, hv9, hb9⟩
            have HV9 := hid hv9
            have HB9 := hid hb9
            clear hv9 hb9
            go_wp2
            go_ret3
            refine RetRM.yes (a := a * 10 ^ x) (d := d) (n := ij) ⟨_, _, rfl, HV9.out, HD.out.below (below_trans HB8.out HB9.out), below_trans HB.out (below_trans HB8.out HB9.out)⟩ (HRM.out.trans ((rT_H HBB.out (by rw [HVE.out]; exact HK2.out) ⟨k0, hk23⟩ (by rw [HVE.out]; exact HX.out) (by omega)).trans (some3 rfl rfl ?_)))
            have h1 := HPE.out; have h2 := HM3.out; have h3 := HAT.out; simp at h1 ⊢; omega
          · go_wp2_with fail
            refine (rpower_any x _ (by omega)).mono ?_
            rintro e w8 ⟨v8, rfl, hv8, hb8⟩
            obtain ⟨A8, n8, c8, rfl, -⟩ := hv8.ex
            have HV8 := hid hv8
            have HB8 := hid hb8
            clear hv8 hb8
            go_wp2_with fail
            refine (rNatMul_any _ _ _ (10 ^ x) _ (HD.out.below HB8.out) HV8.out (by have := HWD.out; omega) (by have := wl_ten1 x; omega)).mono ?_
            rintro e w9 ⟨v9, rfl, hv9, hb9⟩
            have HV9 := hid hv9
            have HB9 := hid hb9
            clear hv9 hb9
            go_wp2
            go_ret3
            refine RetRM.yes (a := a) (d := d * 10 ^ x) (n := ij) ⟨_, _, rfl, HA.out.below (below_trans HB8.out HB9.out), HV9.out, below_trans HB.out (below_trans HB8.out HB9.out)⟩ (HRM.out.trans ((rT_H HBB.out (by rw [HVE.out]; exact HK2.out) ⟨k0, hk23⟩ (by rw [HVE.out]; exact HX.out) (by omega)).trans (some3 rfl rfl ?_)))
            have h1 := HPE.out; have h2 := HM3.out; have h3 := HAT.out; simp at h1 ⊢; omega
end Go.Proofs.YtphlmmjlpbledaaGreatDoor
set_option linter.unusedSimpArgs false
set_option linter.unusedVariables false
namespace Go.Proofs.YtphlmmjlpbledaaGreatDoor
open Go.RowKit
theorem rmag_any (l : List UInt8) (w : World) (hs : l.length ≤ 100000) : Calls Tryz.prog 56 #[.string (sl l)] w (RetRM w (rM l)) := by
  obtain ⟨n, hn⟩ : ∃ n, rW l = n := ⟨_, rfl⟩
  rcases Nat.eq_zero_or_pos n with h0 | h0
  · exact (rmag_A l w hs (hn.trans h0)).mono fun _ _ h => RetRM.no h (by unfold rM; rw [if_pos (hn.trans h0)])
  have hm : ∀ r, l.drop n = r → isHd 46 r = false → rM l = (if isHd 47 r then
      (if rW r.tail = 0 then none else some (dval (l.take n), dval (r.tail.take (rW r.tail)), n + 1 + rW r.tail))
    else rT (dval (l.take n)) 1 n r) := by
    rintro r hr h46
    unfold rM
    rw [hn, if_neg (by omega), hr, h46]
    rfl
  rcases hr : l.drop n with _ | ⟨c, t⟩
  · exact (rmag_we l w hs n hn h0 hr).mono fun _ _ h => RetRM.yes h (hm _ hr rfl)
  by_cases c47 : c = 47
  · subst c47
    have hm2 := hm _ hr (isHd_ne (by decide) t)
    rw [isHd_self, if_pos rfl, List.tail_cons] at hm2
    by_cases hk : rW t = 0
    · rw [if_pos hk] at hm2
      exact (rmag_B l w hs n 0 t hn h0 hr hk rfl).mono fun _ _ h => RetRM.no h hm2
    · rw [if_neg hk] at hm2
      exact (rmag_C l w hs n _ t hn h0 hr rfl (by omega)).mono fun _ _ h => RetRM.yes h hm2
  · exact rmag_main l w hs n c t hn h0 hr c47
end Go.Proofs.YtphlmmjlpbledaaGreatDoor
