import Derived.Deep.RegionHeld3
import Derived.Test.YtphlmmjlpbledaaGreatDoorK16
import Derived.Test.YtphlmmjlpbledaaGreatDoorK19
import Derived.Test.YtphlmmjlpbledaaGreatDoorK32
set_option linter.unusedSimpArgs false
set_option linter.unusedVariables false
namespace Go.Proofs.YtphlmmjlpbledaaGreatDoor
open Go.RowKit
set_option maxRecDepth 100000
def IsQ (w : World) (v : Value) (x : Cx) : Prop := ∃ r p i q s a b d, v = .agg #[.bool p, r, .bool q, i, s] ∧ Low x a b d ∧ IsRI w (.agg #[.bool p, r]) a ∧ IsRI w (.agg #[.bool q, i]) b ∧ IsNat w s d
theorem IsQ.below {w w' : World} {v : Value} {x : Cx} (h : IsQ w v x) (hb : Below w.heap.size w w') : IsQ w' v x := by
  obtain ⟨r, p, i, q, s, a, b, d, h1, h2, h3, h4, h5⟩ := h
  exact ⟨r, p, i, q, s, a, b, d, h1, h2, h3.below hb, h4.below hb, h5.below hb⟩
def RetQ (w : World) (x : Cx) (e : Ending) (w' : World) : Prop := ∃ v, e = .returned v ∧ IsQ w' v x ∧ Below w.heap.size w w'
theorem IsQ.mk {W : World} {r i s : Value} {p q : Bool} {x : Cx} {a b : Int} {d : Nat} (hl : Low x a b d) (hr : IsRI W (.agg #[.bool p, r]) a) (hi : IsRI W (.agg #[.bool q, i]) b) (hs : IsNat W s d) :
    IsQ W (.agg #[.bool p, r, .bool q, i, s]) x := ⟨r, p, i, q, s, a, b, d, rfl, hl, hr, hi, hs⟩
theorem IsQ.parts {w : World} {v : Value} {x : Cx} (h : IsQ w v x) : ∃ A n c p A' n' c' p' A'' n'' c'' a b d,
    v = .agg #[.bool p, .slice A n c, .bool p', .slice A' n' c', .slice A'' n'' c''] ∧ Low x a b d ∧
    IsRI w (.agg #[.bool p, .slice A n c]) a ∧ IsRI w (.agg #[.bool p', .slice A' n' c']) b ∧ IsNat w (.slice A'' n'' c'') d ∧ n = wl a.natAbs ∧ n' = wl b.natAbs ∧ n'' = wl d ∧ p = decide (a < 0) ∧ p' = decide (b < 0) ∧
    IsNat w (.slice A n c) a.natAbs ∧ IsNat w (.slice A' n' c') b.natAbs := by
  obtain ⟨r, p, i, q, s, a, b, d, rfl, hl, hr, hi, hs⟩ := h
  obtain ⟨A, n, c, e1, hn1, h1⟩ := hr.parts
  obtain ⟨A', n', c', e2, hn2, h2⟩ := hi.parts
  obtain ⟨A'', n'', c'', rfl, hnn⟩ := hs.ex
  simp at e1 e2
  obtain ⟨rfl, rfl⟩ := e1
  obtain ⟨rfl, rfl⟩ := e2
  exact ⟨A, n, c, _, A', n', c', _, A'', n'', c'', a, b, d, rfl, hl, hr, hi, hs, hn1, hn2, hnn, rfl, rfl, h1, h2⟩
theorem IsQ.box5 {w : World} {v : Value} {x : Cx} {g : Nat} (h : IsQ w v x) (hB : NumBox w g) (v0 v1 v2 v3 v4 : Value) :
    IsQ (((((w.setCell ⟨g, 0, none⟩ v0).setCell ⟨g, 1, none⟩ v1).setCell ⟨g, 2, none⟩ v2).setCell ⟨g, 3, none⟩ v3).setCell ⟨g, 4, none⟩ v4) v x := by
  obtain ⟨r, p, i, q, s, a, b, d, h1, h2, ⟨s1, e1, h3⟩, ⟨s2, e2, h4⟩, h5⟩ := h
  exact ⟨r, p, i, q, s, a, b, d, h1, h2, ⟨s1, e1, h3.box5 hB _ _ _ _ _⟩, ⟨s2, e2, h4.box5 hB _ _ _ _ _⟩, h5.box5 hB _ _ _ _ _⟩
theorem RetQ.box {w W : World} {v : Value} {x : Cx} {g : Nat} (hb : Below w.heap.size w W) (hg : w.heap.size ≤ g) (hB : NumBox W g) (h : IsQ W v x) (v0 v1 v2 v3 v4 : Value) :
    RetQ w x (.returned v) (((((W.setCell ⟨g, 0, none⟩ v0).setCell ⟨g, 1, none⟩ v1).setCell ⟨g, 2, none⟩ v2).setCell ⟨g, 3, none⟩ v3).setCell ⟨g, 4, none⟩ v4) :=
  ⟨v, rfl, h.box5 hB _ _ _ _ _, below_box5 hb hg _ _ _ _ _⟩
theorem run_loadQ {w : World} {g : Nat} (h : NumBox w g) (v0 v1 v2 v3 v4 : Value) :
    ((Sem.run Tryz.prog (asAddr (Value.pointer (some { block := g, off := 0 }))) (((((w.setCell ⟨g, 0, none⟩ v0).setCell ⟨g, 1, none⟩ v1).setCell ⟨g, 2, none⟩ v2).setCell ⟨g, 3, none⟩ v3).setCell ⟨g, 4, none⟩ v4)).andThen
      fun a w' => Sem.run Tryz.prog (loadVar 35 a) w') =
    Result.ok (Value.agg #[v0, v1, v2, v3, v4]) (((((w.setCell ⟨g, 0, none⟩ v0).setCell ⟨g, 1, none⟩ v1).setCell ⟨g, 2, none⟩ v2).setCell ⟨g, 3, none⟩ v3).setCell ⟨g, 4, none⟩ v4) := by
  obtain ⟨o0, o1, o2, o3, o4, h0, h1, h2, h3, h4, -⟩ := h
  simp [go_sem, h0, h1, h2, h3, h4]
theorem NumBox.nilQ {w : World} {g : Nat} (h0 : w.cell? ⟨g, 0, none⟩ = some (.bool false)) (h1 : w.cell? ⟨g, 1, none⟩ = some (.slice none 0 0)) (h2 : w.cell? ⟨g, 2, none⟩ = some (.bool false)) (h3 : w.cell? ⟨g, 3, none⟩ = some (.slice none 0 0)) (h4 : w.cell? ⟨g, 4, none⟩ = some (.slice none 0 0)) : NumBox w g :=
  ⟨_, _, _, _, _, h0, h1, h2, h3, h4, Odd.bool _, Odd.slice _ _ _, Odd.bool _, Odd.slice _ _ _, Odd.slice _ _ _⟩
theorem gcd3_ref (a b : Int) (d : Nat) : Nat.gcd (Nat.gcd a.natAbs b.natAbs) d = gcd3 a b d := by
  unfold gcd3
  rw [Nat.gcd_comm, ← Nat.gcd_assoc]
theorem sign_quot {a : Int} {g : Nat} (hg : 0 < g) (hd : (g : Int) ∣ a) : (a / (g : Int)).natAbs = a.natAbs / g ∧ (decide (a < 0) && decide (0 < a.natAbs / g)) = decide (a / (g : Int) < 0) := by
  obtain ⟨k, rfl⟩ := hd
  have h1 : (g : Int) * k / g = k := Int.mul_ediv_cancel_left _ (by omega)
  rw [h1, Int.natAbs_mul, Int.natAbs_natCast, Nat.mul_div_cancel_left _ hg]
  refine ⟨rfl, ?_⟩
  rw [Bool.eq_iff_iff]
  simp only [Bool.and_eq_true, decide_eq_true_eq]
  constructor
  · rintro ⟨h2, h3⟩
    rcases Int.lt_trichotomy k 0 with h | h | h
    · exact h
    · subst h; simp at h2
    · have := Int.mul_pos (show (0 : Int) < g by omega) h; omega
  · intro h
    exact ⟨Int.mul_neg_of_pos_of_neg (by omega) h, by omega⟩
set_option maxHeartbeats 2000000 in
theorem rMake_one (r i s : Value) (a b : Int) (d : Nat) (x : Cx) (w : World) (hr : IsRI w r a) (hi : IsRI w i b) (hs : IsNat w s d) (hl : Low x a b d) (h1 : gcd3 a b d = 1)
    (sa : wl a.natAbs < 549755813888) (sb : wl b.natAbs < 549755813888) (sd : wl d < 549755813888) :
    Calls Tryz.prog 57 #[r, i, s] w (RetQ w x) := by
  have hd := hl.pos
  obtain ⟨A1, n1, c1, rfl, hn1, hs1⟩ := hr.parts
  obtain ⟨A2, n2, c2, rfl, hn2, hs2⟩ := hi.parts
  obtain ⟨A3, n3, c3, rfl, hn3⟩ := hs.ex
  have G1 := hid (fun W (hb : Below w.heap.size w W) => rNatGcd_any _ _ _ _ W (hs1.below hb) (hs2.below hb) sa sb)
  have sg : wl (Nat.gcd a.natAbs b.natAbs) < 549755813888 := by
    rcases Nat.eq_zero_or_pos a.natAbs with h0 | h0
    · rw [h0, Nat.gcd_zero_left]; exact sb
    · exact Nat.lt_of_le_of_lt (wl_mono (Nat.gcd_le_left _ h0)) sa
  have G2 := hid (fun v W (hv : IsNat W v (Nat.gcd a.natAbs b.natAbs)) (hb : Below w.heap.size w W) => rNatGcd_any _ _ _ _ W hv (hs.below hb) sg sd)
  rw [gcd3_ref, h1] at G2
  have HL := hid hl
  have HR := hid hr
  have HI := hid hi
  have HS := hid hs
  clear hr hi hs hl h1 sg sa sb sd hn1 hn2 hn3 hs1 hs2
  generalize decide (a < 0) = p1 at *
  generalize decide (b < 0) = p2 at *
  generalize Nat.gcd a.natAbs b.natAbs = g at *
  go_enter Tryz.func57, Tryz.ntmps57
  go_wp2_with fail
  refine (G1.out _ bel).mono ?_
  rintro e W2 ⟨v2, rfl, hv2, hb2⟩
  obtain ⟨hc2, hf2, hz2⟩ := bcells hb2 (w.heap.size + 3) (by simp)
  go_wp2_with fail
  refine (G2.out _ _ hv2 bel).mono ?_
  rintro e W3 ⟨v3, rfl, hv3, hb3⟩
  obtain ⟨hc3, hf3, hz3⟩ := bcells hb3 (w.heap.size + 3) (by omega)
  have NB : NumBox W3 (w.heap.size + 2) := NumBox.of hc3 (by omega) (NumBox.of hc2 (by omega) (.nilQ (by simp [go_sem]) (by simp [go_sem]) (by simp [go_sem]) (by simp [go_sem]) (by simp [go_sem])))
  have B3 : Below w.heap.size w W3 := bel
  obtain ⟨A4, c4, rfl, hc4, hw4⟩ := hv3
  rw [wl_one] at *
  obtain ⟨b4, o4, rfl, hb4, hcell4⟩ := hw4 (by omega)
  have hcy := hcell4 0 (by omega)
  rw [show dg 1 0 = 1 from by simp [dg_zero], Nat.add_zero] at hcy
  clear hcell4 hw4 hv2
  go_wp2
  refine bodyPost_ret (v := .agg #[.bool p1, .slice A1 n1 c1, .bool p2, .slice A2 n2 c2, .slice A3 n3 c3]) (by simp [results, Tryz.results57]; exact run_loadQ NB _ _ _ _ _) rfl ?_
  exact RetQ.box B3 (by omega) NB (.mk HL.out (HR.out.below B3) (HI.out.below B3) (HS.out.below B3)) _ _ _ _ _
set_option maxHeartbeats 4000000 in
theorem rMake_big (r i s : Value) (a b : Int) (d k : Nat) (x : Cx) (w : World) (hr : IsRI w r a) (hi : IsRI w i b) (hs : IsNat w s d) (hd : 0 < d) (hk : gcd3 a b d = k) (h1 : k ≠ 1) (hl : Low x (a / (k : Nat)) (b / (k : Nat)) (d / k))
    (sa : wl a.natAbs < 549755813888) (sb : wl b.natAbs < 549755813888) (sd : wl d < 549755813888) :
    Calls Tryz.prog 57 #[r, i, s] w (RetQ w x) := by
  obtain ⟨A1, n1, c1, rfl, hn1, hs1⟩ := hr.parts
  obtain ⟨A2, n2, c2, rfl, hn2, hs2⟩ := hi.parts
  obtain ⟨A3, n3, c3, rfl, hn3⟩ := hs.ex
  have hk0 : 0 < k := by rw [← hk]; exact gcd3_pos hd
  obtain ⟨kd, ka, kb⟩ := gcd3_dvd a b d
  rw [hk] at kd ka kb
  have sk : wl k < 549755813888 := Nat.lt_of_le_of_lt (wl_mono (Nat.le_of_dvd hd kd)) sd
  have G1 := hid (fun W (hb : Below w.heap.size w W) => rNatGcd_any _ _ _ _ W (hs1.below hb) (hs2.below hb) sa sb)
  have sg : wl (Nat.gcd a.natAbs b.natAbs) < 549755813888 := by
    rcases Nat.eq_zero_or_pos a.natAbs with h0 | h0
    · rw [h0, Nat.gcd_zero_left]; exact sb
    · exact Nat.lt_of_le_of_lt (wl_mono (Nat.gcd_le_left _ h0)) sa
  have G2 := hid (fun v W (hv : IsNat W v (Nat.gcd a.natAbs b.natAbs)) (hb : Below w.heap.size w W) => rNatGcd_any _ _ _ _ W hv (hs.below hb) sg sd)
  rw [gcd3_ref, hk] at G2
  have D1 := hid (fun v W (hv : IsNat W v k) (hb : Below w.heap.size w W) => rNatDiv_any _ _ _ _ W (hs1.below hb) hv hk0 sa sk)
  have D2 := hid (fun v W (hv : IsNat W v k) (hb : Below w.heap.size w W) => rNatDiv_any _ _ _ _ W (hs2.below hb) hv hk0 sb sk)
  have D3 := hid (fun v W (hv : IsNat W v k) (hb : Below w.heap.size w W) => rNatDiv_any _ _ _ _ W (hs.below hb) hv hk0 sd sk)
  have QA := sign_quot hk0 ka
  have QB := sign_quot hk0 kb
  have S1 := hid (fun v W (hv : IsNat W v (a.natAbs / k)) => rsigned_any _ v _ (a / (k : Int)) W hv QA.1 QA.2)
  have S2 := hid (fun v W (hv : IsNat W v (b.natAbs / k)) => rsigned_any _ v _ (b / (k : Int)) W hv QB.1 QB.2)
  have HL := hid hl
  have H1 := hid h1
  clear hr hi hs hl h1 hk sg sa sb sd sk hk0 kd ka kb hn1 hn2 hn3 hs1 hs2 QA QB hd
  generalize decide (a < 0) = p1 at *
  generalize decide (b < 0) = p2 at *
  generalize Nat.gcd a.natAbs b.natAbs = g at *
  go_enter Tryz.func57, Tryz.ntmps57
  go_wp2_with fail
  refine (G1.out _ bel).mono ?_
  rintro e W2 ⟨v2, rfl, hv2, hb2⟩
  obtain ⟨hc2, hf2, hz2⟩ := bcells hb2 (w.heap.size + 3) (by simp)
  go_wp2_with fail
  refine (G2.out _ _ hv2 bel).mono ?_
  rintro e W3 ⟨v3, rfl, hv3, hb3⟩
  obtain ⟨hc3, hf3, hz3⟩ := bcells hb3 (w.heap.size + 3) (by omega)
  have NB : NumBox W3 (w.heap.size + 2) := NumBox.of hc3 (by omega) (NumBox.of hc2 (by omega) (.nilQ (by simp [go_sem]) (by simp [go_sem]) (by simp [go_sem]) (by simp [go_sem]) (by simp [go_sem])))
  have B3 : Below w.heap.size w W3 := bel
  have k0 : W3.cell? ⟨w.heap.size, 0, none⟩ = some (.bool p1) := by rw [hc3 _ _ (by omega), hc2 _ _ (by omega)]; simp [go_sem]
  have k1 : W3.cell? ⟨w.heap.size, 1, none⟩ = some (.slice A1 n1 c1) := by rw [hc3 _ _ (by omega), hc2 _ _ (by omega)]; simp [go_sem]
  have k2 : W3.cell? ⟨w.heap.size + 1, 0, none⟩ = some (.bool p2) := by rw [hc3 _ _ (by omega), hc2 _ _ (by omega)]; simp [go_sem]
  have k3 : W3.cell? ⟨w.heap.size + 1, 1, none⟩ = some (.slice A2 n2 c2) := by rw [hc3 _ _ (by omega), hc2 _ _ (by omega)]; simp [go_sem]
  have kf : ∀ o, W3.frozen? ⟨w.heap.size + 2, o, none⟩ = false := fun o => by rw [hf3 _ _ (by omega), hf2 _ _ (by omega)]; simp [go_sem]
  have kc := fun o => (hc3 (w.heap.size + 2) o (by omega)).trans (hc2 _ o (by omega))
  have HNB := hid NB
  clear NB hb2 hc2 hf2 hz2 hb3 hc3 hf3 hv2
  have HV3 := hid hv3
  obtain ⟨A4, c4, rfl, hc4, hw4⟩ := hv3
  have hq : (wl k = 1 ∧ ∃ b o, A4 = some ⟨b, o, none⟩ ∧ b < W3.heap.size ∧ W3.cell? ⟨b, o, none⟩ = some (.int .u32 (k : Int))) ∨ ((wl k : Int) == 1) = false := by
    by_cases hk1 : wl k = 1
    · refine .inl ⟨hk1, ?_⟩
      obtain ⟨b4, o4, e4, hb4, hcell4⟩ := hw4 (by omega)
      have hcy := hcell4 0 (by omega)
      have hx := vs_dg_wl k
      rw [hk1, vs_one] at hx
      rw [hx, Nat.add_zero] at hcy
      exact ⟨b4, o4, e4, hb4, hcy⟩
    · exact .inr (by simp; omega)
  clear hw4 hc4
  have h1 := H1.out
  have hk2 : ((k : Int) == 1) = false := by simp; omega
  clear h1
  rcases hq with ⟨hk1, b4, o4, rfl, hb4, hcy⟩ | hk1
  all_goals
    try rw [hk1] at HV3
    go_wp2_with fail
    refine (D1.out _ _ HV3.out B3).mono ?_
    rintro e W4 ⟨v4, u4, rfl, hv4, hu4, hb4⟩
    obtain ⟨hc4, hf4, hz4⟩ := bcells hb4 (w.heap.size + 3) (by omega)
    have k0' := (hc4 w.heap.size 0 (by omega)).trans k0
    have k1' := (hc4 w.heap.size 1 (by omega)).trans k1
    have k2' := (hc4 (w.heap.size + 1) 0 (by omega)).trans k2
    have k3' := (hc4 (w.heap.size + 1) 1 (by omega)).trans k3
    have kf' : ∀ o, W4.frozen? ⟨w.heap.size + 2, o, none⟩ = false := fun o => (hf4 _ o (by omega)).trans (kf o)
    have kc' := fun o => (hc4 _ o (by omega)).trans (kc o)
    have HB4 := hid hb4
    have HV4 := hid hv4
    have HNB4 := hid (NumBox.of (g := w.heap.size + 2) hc4 (by omega) HNB.out)
    clear hc4 hf4 hb4 hv4 hu4
    go_wp2_with fail
    refine (D2.out _ _ (HV3.out.below HB4.out) (below_trans B3 HB4.out)).mono ?_
    rintro e W5 ⟨v5, u5, rfl, hv5, hu5, hb5⟩
    obtain ⟨hc5, hf5, hz5⟩ := bcells hb5 (w.heap.size + 3) (by omega)
    have k0'' := (hc5 w.heap.size 0 (by omega)).trans k0'
    have k2'' := (hc5 (w.heap.size + 1) 0 (by omega)).trans k2'
    have kf'' : ∀ o, W5.frozen? ⟨w.heap.size + 2, o, none⟩ = false := fun o => (hf5 _ o (by omega)).trans (kf' o)
    have kc'' := fun o => (hc5 _ o (by omega)).trans (kc' o)
    have HB5 := hid hb5
    have HV5 := hid hv5
    have HNB5 := hid (NumBox.of (g := w.heap.size + 2) hc5 (by omega) HNB4.out)
    clear hc5 hf5 hb5 hv5 hu5
    go_wp2_with fail
    refine (D3.out _ _ ((HV3.out.below HB4.out).below HB5.out) (below_trans (below_trans B3 HB4.out) HB5.out)).mono ?_
    rintro e W6 ⟨v6, u6, rfl, hv6, hu6, hb6⟩
    obtain ⟨hc6, hf6, hz6⟩ := bcells hb6 (w.heap.size + 3) (by omega)
    have k0 := (hc6 w.heap.size 0 (by omega)).trans k0''
    have k2 := (hc6 (w.heap.size + 1) 0 (by omega)).trans k2''
    have kf : ∀ o, W6.frozen? ⟨w.heap.size + 2, o, none⟩ = false := fun o => (hf6 _ o (by omega)).trans (kf'' o)
    have kc := fun o => (hc6 _ o (by omega)).trans (kc'' o)
    have HNB6 := hid (NumBox.of (g := w.heap.size + 2) hc6 (by omega) HNB5.out)
    have B6 : Below w.heap.size w W6 := below_trans (below_trans (below_trans B3 HB4.out) HB5.out) hb6
    have HA := hid (fun W (hb : Below W6.heap.size W6 W) => S1.out v4 W (((HV4.out.below HB5.out).below hb6).below hb))
    have HB := hid (fun W (hb : Below W6.heap.size W6 W) => S2.out v5 W ((HV5.out.below hb6).below hb))
    obtain ⟨A9, n9, c9, rfl, -⟩ := hv6.ex
    have HS := hid hv6
    clear hc6 hf6 hb6 hv6 hu6 k0' k1' k2' k3' k0'' k2'' kf' kf'' kc' kc''
    have hne1 : ¬ (w.heap.size + 1 + 1 = w.heap.size) := by omega
    have hne2 : ¬ (w.heap.size = w.heap.size + 1 + 1) := by omega
    go_wp2_with fail
    go_region_held3 (fun w' => w'.cell? ⟨w.heap.size, 0, none⟩ = some (.bool p1) ∧ w'.cell? ⟨w.heap.size + 1, 0, none⟩ = some (.bool p2)) (go_keep) (first | (go_at_call 58; (first | ((with_reducible refine (HA.out _ ?_).mono ?_); (exact bel); (rintro e W7 ⟨r7, rfl, hr7, hb7⟩; obtain ⟨A7, n7, c7, rfl, -, -⟩ := hr7.parts; generalize decide (a / (k : Int) < 0) = q7 at *; obtain ⟨hc7, hf7, hz7⟩ := bcells hb7 (w.heap.size + 3) (by simp <;> omega))) | ((with_reducible refine (HB.out _ ?_).mono ?_); (exact bel); (rintro e W8 ⟨r8, rfl, hr8, hb8⟩; obtain ⟨A8, n8, c8, rfl, -, -⟩ := hr8.parts; generalize decide (b / (k : Int) < 0) = q8 at *; have kb8 : Below W7.heap.size W7 W8 := bel; clear hb8; obtain ⟨hc8, hf8, hz8⟩ := bcells kb8 (w.heap.size + 3) (by omega))))))
    go_wp2
    have C7 : Below W6.heap.size W6 W7 := bel
    have C8 := below_trans C7 kb8
    have B8 := below_trans B6 C8
    have NB : NumBox W8 (w.heap.size + 2) := NumBox.of hc8 (by omega) (NumBox.of hc7 (g := w.heap.size + 2) (by omega) HNB6.out)
    refine bodyPost_ret (v := .agg #[.bool q7, .slice A7 n7 c7, .bool q8, .slice A8 n8 c8, .slice A9 n9 c9]) (by simp [results, Tryz.results57]; exact run_loadQ NB _ _ _ _ _) rfl ?_
    exact RetQ.box B8 (by omega) NB (.mk HL.out (hr7.below kb8) hr8 (HS.out.below C8)) _ _ _ _ _
theorem rMake_any (r i s : Value) (a b : Int) (d : Nat) (x : Cx) (w : World) (hr : IsRI w r a) (hi : IsRI w i b) (hs : IsNat w s d) (hd : 0 < d) (h1 : x.re * (d : Rat) = (a : Rat)) (h2 : x.im * (d : Rat) = (b : Rat))
    (sa : wl a.natAbs < 549755813888) (sb : wl b.natAbs < 549755813888) (sd : wl d < 549755813888) :
    Calls Tryz.prog 57 #[r, i, s] w (RetQ w x) := by
  have hl := Low.of hd h1 h2
  by_cases hk : gcd3 a b d = 1
  · rw [hk] at hl
    exact rMake_one r i s a b d x w hr hi hs (by simpa using hl) hk sa sb sd
  · exact rMake_big r i s a b d _ x w hr hi hs hd rfl hk hl sa sb sd
theorem IsRI.zero (w : World) (A : Option Addr) (c : Nat) : IsRI w (.agg #[.bool false, .slice A 0 c]) 0 := ⟨_, by simp, IsNat.zero w A c⟩
theorem IsRI.box5 {w : World} {v : Value} {z : Int} {g : Nat} (h : IsRI w v z) (hB : NumBox w g) (v0 v1 v2 v3 v4 : Value) :
    IsRI (((((w.setCell ⟨g, 0, none⟩ v0).setCell ⟨g, 1, none⟩ v1).setCell ⟨g, 2, none⟩ v2).setCell ⟨g, 3, none⟩ v3).setCell ⟨g, 4, none⟩ v4) v z := by
  obtain ⟨s, h1, h2⟩ := h
  exact ⟨s, h1, h2.box5 hB _ _ _ _ _⟩
theorem run_loadQa {w : World} {g : Nat} (h : NumBox w g) (hg : g < w.heap.size) (v0 v1 v2 v3 v4 : Value) (C : Array Value) (T : TypeId) :
    ((Sem.run Tryz.prog (asAddr (Value.pointer (some { block := g, off := 0 }))) ((((((w.setCell ⟨g, 0, none⟩ v0).setCell ⟨g, 1, none⟩ v1).setCell ⟨g, 2, none⟩ v2).setCell ⟨g, 3, none⟩ v3).setCell ⟨g, 4, none⟩ v4).alloc (.cells C T))).andThen
      fun a w' => Sem.run Tryz.prog (loadVar 35 a) w') =
    Result.ok (Value.agg #[v0, v1, v2, v3, v4]) ((((((w.setCell ⟨g, 0, none⟩ v0).setCell ⟨g, 1, none⟩ v1).setCell ⟨g, 2, none⟩ v2).setCell ⟨g, 3, none⟩ v3).setCell ⟨g, 4, none⟩ v4).alloc (.cells C T)) := by
  obtain ⟨o0, o1, o2, o3, o4, h0, h1, h2, h3, h4, -⟩ := h
  simp [go_sem, h0, h1, h2, h3, h4, hg]
theorem rWhole_any (z : Int) (w : World) (h1 : -9223372036854775808 ≤ z) (h2 : z < 9223372036854775808) :
    Calls Tryz.prog 55 #[.int .i64 z] w (RetQ w (.int z)) := by
  have HF := hid (fun W => rIntOf_any z W h1 h2)
  clear h1 h2
  go_enter Tryz.func55, Tryz.ntmps55
  go_wp2_with fail
  refine (HF.out _).mono ?_
  rintro e W2 ⟨r, rfl, hr, hb2⟩
  obtain ⟨hc2, hf2, hz2⟩ := bcells hb2 (w.heap.size + 1) (by simp)
  obtain ⟨A, n, c, rfl, hn, -⟩ := hr.parts
  clear hn
  generalize decide (z < 0) = q at *
  have lt0 : w.heap.size < W2.heap.size := by omega
  go_wp2
  have NB : NumBox W2 w.heap.size := NumBox.of hc2 (by omega) (.nilQ (by simp [go_sem]) (by simp [go_sem]) (by simp [go_sem]) (by simp [go_sem]) (by simp [go_sem]))
  refine bodyPost_ret (v := .agg #[.bool q, .slice A n c, .bool false, .slice none 0 0, .slice (some ⟨W2.heap.size, 0, none⟩) 1 1]) (by simp [results, Tryz.results55]; exact run_loadQa NB lt0 _ _ _ _ _ _ _) rfl ?_
  have B2 : Below w.heap.size w W2 := below_trans (below_alloc _ _) hb2
  exact ⟨_, rfl, .mk (Low.int z) ((hr.box5 NB _ _ _ _ _).below (below_alloc _ _)) (IsRI.zero _ _ _) (IsNat.one _ _ (by simp) (by simp [go_sem]) 1 (Nat.le_refl _)), below_trans (below_box5 B2 (by omega) _ _ _ _ _) (below_alloc _ _)⟩
def RetQE (w : World) (x : Cx) (k : Int) (e : Ending) (w' : World) : Prop := ∃ v, e = .returned (.tuple #[v, .int .i64 k]) ∧ IsQ w' v x ∧ Below w.heap.size w w'
theorem RetQE.box {w W : World} {v : Value} {x : Cx} {k : Int} {g : Nat} (hb : Below w.heap.size w W) (hg : w.heap.size ≤ g) (hB : NumBox W g) (h : IsQ W v x) (v0 v1 v2 v3 v4 : Value) :
    RetQE w x k (.returned (.tuple #[v, .int .i64 k])) (((((W.setCell ⟨g, 0, none⟩ v0).setCell ⟨g, 1, none⟩ v1).setCell ⟨g, 2, none⟩ v2).setCell ⟨g, 3, none⟩ v3).setCell ⟨g, 4, none⟩ v4) :=
  ⟨v, rfl, h.box5 hB _ _ _ _ _, below_box5 hb hg _ _ _ _ _⟩
theorem run_loadQe {w : World} {g : Nat} (h : NumBox w g) (v0 v1 v2 v3 v4 r : Value) :
    ((Sem.run Tryz.prog (asAddr (Value.pointer (some { block := g, off := 0 }))) (((((w.setCell ⟨g, 0, none⟩ v0).setCell ⟨g, 1, none⟩ v1).setCell ⟨g, 2, none⟩ v2).setCell ⟨g, 3, none⟩ v3).setCell ⟨g, 4, none⟩ v4)).andThen
      fun a w' => (Sem.run Tryz.prog (loadVar 35 a) w').andThen fun a w' => Result.ok (Value.tuple #[a, r]) w') =
    Result.ok (Value.tuple #[Value.agg #[v0, v1, v2, v3, v4], r]) (((((w.setCell ⟨g, 0, none⟩ v0).setCell ⟨g, 1, none⟩ v1).setCell ⟨g, 2, none⟩ v2).setCell ⟨g, 3, none⟩ v3).setCell ⟨g, 4, none⟩ v4) := by
  obtain ⟨o0, o1, o2, o3, o4, h0, h1, h2, h3, h4, -⟩ := h
  simp [go_sem, h0, h1, h2, h3, h4]
end Go.Proofs.YtphlmmjlpbledaaGreatDoor
