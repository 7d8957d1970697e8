/- Walks of matrices of numbers: square, eliminate. -/
import Derived.RegionTactic
import Derived.Test.YtlljeccfhmojnaaGreatDoorG25
set_option linter.unusedSimpArgs false
set_option linter.unusedVariables false
namespace Go.Proofs.YtlljeccfhmojnaaGreatDoor
open Go.RowKit
set_option maxRecDepth 100000

set_option maxHeartbeats 1000000 in
theorem squareN_rect (w : World) (go : Nat) (gi : Nat → Nat) (n m : Nat) (F : Nat → Nat → Cx) (h : MatAt w go gi n m F) (hn : 0 < n) (hn1 : n ≤ 32) (hm1 : m ≤ 32) :
    Calls Tryz.prog 104 #[.slice (some ⟨go, 0, none⟩) n n] w fun e w' => e = .returned (.bool (decide (n = m))) ∧ Below w.heap.size w w' := by
  have H := Lib.hid (sidesN_rect w go gi n m F h hn hn1 hm1)
  clear h
  by_cases hnm : n = m
  · have hd : decide (n = m) = true := by simp [hnm]
    have HD := Lib.hid hd
    have he : (n : Int) = (m : Int) := by omega
    clear hd hnm
    go_enter Tryz.func104, Tryz.ntmps104
    go_wp2_with fail
    refine H.out.mono ?_
    rintro e W2 ⟨rfl, hb⟩
    go_wp2
    go_ret
    exact ⟨by rw [HD.out]; rfl, hb⟩
  · have hd : decide (n = m) = false := by simp [hnm]
    have HD := Lib.hid hd
    have he : ((n : Int) == (m : Int)) = false := by simp; omega
    clear hd
    go_enter Tryz.func104, Tryz.ntmps104
    go_wp2_with fail
    refine H.out.mono ?_
    rintro e W2 ⟨rfl, hb⟩
    go_wp2
    go_ret
    exact ⟨by rw [HD.out]; rfl, hb⟩
set_option maxHeartbeats 1000000 in
theorem squareN_nil (w : World) (A : Option Addr) (c : Nat) :
    Calls Tryz.prog 104 #[.slice A 0 c] w fun e w' => e = .returned (.bool true) ∧ Below w.heap.size w w' := by
  have H := Lib.hid (sidesN_nil w A c)
  go_enter Tryz.func104, Tryz.ntmps104
  go_wp2_with fail
  refine H.out.mono ?_
  rintro e W2 ⟨rfl, hb⟩
  go_wp2
  go_ret
  exact ⟨rfl, hb⟩

/-- Two rows exchanged. -/
def swp {α : Type} (f : Nat → α) (c p : Nat) : Nat → α := fun i => if i = c then f p else if i = p then f c else f i
theorem MatAt.oddOut {W : World} {go : Nat} {gi : Nat → Nat} {n m : Nat} {F : Nat → Nat → Cx} (h : MatAt W go gi n m F) : ∃ cs, W.heap[go]? = some (.cells cs 44 (0, 0)) ∧ oddB cs = true := by
  obtain ⟨cs, h1, h2, h3, -⟩ := h
  refine ⟨cs, h1, ?_⟩
  unfold oddB
  rw [List.all_eq_true]
  intro v hv
  obtain ⟨i, hi, rfl⟩ := List.getElem_of_mem hv
  have hi' : i < n := by simpa [h2] using hi
  have := h3 i hi'
  obtain ⟨hlt, hu⟩ := Array.getElem?_eq_some_iff.1 this
  have e : cs.toList[i] = .slice (some ⟨gi i, 0, none⟩) m m := by simpa using hu
  rw [e]
theorem setCell_but {W : World} {g i : Nat} {cs : Array Value} {T : TypeId} (h : W.heap[g]? = some (.cells cs T (0, 0))) (v : Value) : But W (W.setCell ⟨g, i, none⟩ v) g ∧ (W.setCell ⟨g, i, none⟩ v).heap[g]? = some (.cells (cs.setIfInBounds i v) T (0, 0)) := by
  rw [setCell_eq_setRow W g i cs _ (0, 0) _ h]
  exact ⟨But.setRow _ _ _, setRow_heap W g cs _ _ _ h⟩
theorem MatAt.swap {B : Nat} {W : World} {go : Nat} {gi : Nat → Nat} {n m c p : Nat} {F : Nat → Nat → Cx} (h : MatAt W go gi n m F) (hs : MatSep B go gi n) (hc : c < n) (hp : p < n) (hcp : c ≠ p) :
    MatAt ((W.setCell ⟨go, c, none⟩ (.slice (some ⟨gi p, 0, none⟩) m m)).setCell ⟨go, p, none⟩ (.slice (some ⟨gi c, 0, none⟩) m m)) go (swp gi c p) n m (swp F c p) ∧ MatSep B go (swp gi c p) n ∧
    Below B W ((W.setCell ⟨go, c, none⟩ (.slice (some ⟨gi p, 0, none⟩) m m)).setCell ⟨go, p, none⟩ (.slice (some ⟨gi c, 0, none⟩) m m)) := by
  obtain ⟨cs0, hz, hodd⟩ := h.oddOut
  obtain ⟨cs, h1, h2, h3, h4⟩ := h
  rw [h1] at hz
  have he0 : cs0 = cs := by cases hz; rfl
  rw [he0] at hodd
  clear hz he0 cs0
  obtain ⟨b1, x1⟩ := setCell_but (i := c) h1 (.slice (some ⟨gi p, 0, none⟩) m m)
  obtain ⟨b2, x2⟩ := setCell_but (i := p) x1 (.slice (some ⟨gi c, 0, none⟩) m m)
  have e1 := b1.ext h1 hodd
  have hodd2 : oddB (cs.setIfInBounds c (.slice (some ⟨gi p, 0, none⟩) m m)) = true := by
    unfold oddB at *
    rw [List.all_eq_true] at *
    intro v hv
    rw [Array.toList_setIfInBounds] at hv
    rcases List.mem_or_eq_of_mem_set hv with hv | rfl
    · exact hodd v hv
    · rfl
  have e2 := b2.ext x1 hodd2
  refine ⟨⟨_, x2, by simp [h2], fun i hi => ?_, fun i hi => ?_⟩, ⟨hs.lo, fun i hi => ?_, fun i hi => ?_, fun i j hi hj e => ?_⟩, b2.below (b1.below (Below.refl _ _) hs.lo) hs.lo⟩
  · rw [Array.getElem?_setIfInBounds, Array.getElem?_setIfInBounds]
    unfold swp
    by_cases hip : p = i
    · subst hip
      rw [if_pos rfl, if_pos (by simp; omega), if_neg (fun e => hcp e.symm), if_pos rfl]
    · rw [if_neg hip]
      by_cases hic : c = i
      · subst hic
        rw [if_pos rfl, if_pos (by omega), if_pos rfl]
      · rw [if_neg hic, if_neg (fun e => hic e.symm), if_neg (fun e => hip e.symm)]
        exact h3 i hi
  · have key : ∀ j, j < n → NBlk ((W.setCell ⟨go, c, none⟩ (.slice (some ⟨gi p, 0, none⟩) m m)).setCell ⟨go, p, none⟩ (.slice (some ⟨gi c, 0, none⟩) m m)) (gi j) m (F j) := fun j hj =>
      ((h4 j hj).but b1 e1 (hs.ne j hj)).but b2 e2 (hs.ne j hj)
    unfold swp
    by_cases hic : i = c
    · rw [if_pos hic, if_pos hic]; exact key p hp
    · rw [if_neg hic, if_neg hic]
      by_cases hip : i = p
      · rw [if_pos hip, if_pos hip]; exact key c hc
      · rw [if_neg hip, if_neg hip]; exact key i hi
  · unfold swp
    split
    · exact hs.los p hp
    · split
      · exact hs.los c hc
      · exact hs.los i hi
  · unfold swp
    split
    · exact hs.ne p hp
    · split
      · exact hs.ne c hc
      · exact hs.ne i hi
  · unfold swp at e
    have I := hs.inj
    by_cases h1 : i = c <;> by_cases h2 : j = c <;> by_cases h3 : i = p <;> by_cases h4 : j = p <;> simp only [h1, h2, h3, h4, if_true, if_false] at e <;> first | omega | (have := I _ _ (by omega) (by omega) e; omega) | skip
    all_goals (try simp_all)
    all_goals (first | omega | (have := I _ _ (by omega) (by omega) e; omega))

theorem pivF_cases (F : Nat → Nat → Cx) (c : Nat) : ∀ (d i : Nat), (pivF F c i d = -1 ∧ ∀ j, i ≤ j → j < i + d → F j c = .zero) ∨ ∃ p, i ≤ p ∧ p < i + d ∧ pivF F c i d = (p : Int) ∧ F p c ≠ .zero ∧ ∀ j, i ≤ j → j < p → F j c = .zero := by
  intro d
  induction d with
  | zero => intro i; exact .inl ⟨rfl, fun j h1 h2 => absurd h2 (by omega)⟩
  | succ d ih =>
    intro i
    rw [pivF]
    by_cases h : F i c = .zero
    · rw [if_pos h]
      rcases ih (i + 1) with ⟨h1, h2⟩ | ⟨p, h1, h2, h3, h4, h5⟩
      · refine .inl ⟨h1, fun j a b => ?_⟩
        by_cases hj : j = i
        · rw [hj]; exact h
        · exact h2 j (by omega) (by omega)
      · refine .inr ⟨p, by omega, by omega, h3, h4, fun j a b => ?_⟩
        by_cases hj : j = i
        · rw [hj]; exact h
        · exact h5 j (by omega) b
    · rw [if_neg h]
      exact .inr ⟨i, Nat.le_refl _, by omega, rfl, h, fun j a b => absurd b (by omega)⟩

/-- The elimination from column c on, with d columns to come: where it stops, how many exchanges, what is left. -/
def elimS (n : Nat) : Nat → Nat → (Nat → Nat → Cx) → Nat → Nat × Nat × (Nat → Nat → Cx)
  | 0, c, F, ex => (c, ex, F)
  | d + 1, c, F, ex =>
    if pivF F c c (n - c) < 0 then (c, ex, F)
    else if pivF F c c (n - c) = (c : Int) then elimS n d (c + 1) (clearF F c c n) ex
    else elimS n d (c + 1) (clearF (swp F c (pivF F c c (n - c)).toNat) c c n) (ex + 1)
/-- The size of the elements behind c columns. -/
def szE (s : Nat) : Nat → Nat
  | 0 => s
  | c + 1 => 5 * szE s c + 4
theorem szE_mono (s : Nat) : ∀ {a b : Nat}, a ≤ b → szE s a ≤ szE s b := by
  intro a b h
  induction h with
  | refl => exact Nat.le_refl _
  | step _ ih => rw [szE]; omega
theorem Sz.clearF {F : Nat → Nat → Cx} {n m r c s : Nat} (hS : ∀ a b, a < n → b < m → Sz (F a b) s) (hr : r < n) (hc : c < m) : ∀ a b, a < n → b < m → Sz (clearF F r c n a b) (5 * s + 4) := fun a b ha hb => by
  unfold Go.Proofs.YtlljeccfhmojnaaGreatDoor.clearF clearP
  split
  · have h1 := (hS a c ha hc).div (hS r c hr hc)
    have h2 := (hS a b ha hb).sub (h1.mul (hS r b hr hb))
    exact h2.mono (by omega)
  · exact (hS a b ha hb).mono (by omega)
theorem Sz.swp {F : Nat → Nat → Cx} {n m c p s : Nat} (hS : ∀ a b, a < n → b < m → Sz (F a b) s) (hc : c < n) (hp : p < n) : ∀ a b, a < n → b < m → Sz (swp F c p a b) s := fun a b ha hb => by
  unfold Go.Proofs.YtlljeccfhmojnaaGreatDoor.swp
  split
  · exact hS p b hp hb
  · split
    · exact hS c b hc hb
    · exact hS a b ha hb
/- eliminate -/
theorem Tab.belowD {B : Nat} {w w' : World} (h : Tab w) (hB : 1 < B) (hb : Below B w w') : Tab w' := h.belowB hB hb
/-- What an elimination leaves. -/
def RetElim (B : Nat) (w : World) (go n m : Nat) (R : Nat × Nat × (Nat → Nat → Cx)) (e : Ending) (w' : World) : Prop :=
  ∃ gi, e = .returned (.tuple #[.int .i64 R.1, .int .i64 R.2.1]) ∧ MatAt w' go gi n m R.2.2 ∧ MatSep B go gi n ∧ Below B w w'
theorem drewN_mat {W : World} {go : Nat} {gi : Nat → Nat} {n m : Nat} {F : Nat → Nat → Cx} (h : MatAt W go gi n m F) (q : Nat) : MatAt (W.drewN q) go gi n m F := h.below (below_drewN _ _)
set_option maxHeartbeats 4000000 in
theorem eliminateN_any (B : Nat) (w : World) (go : Nat) (gi : Nat → Nat) (n m s : Nat) (F : Nat → Nat → Cx) (h : MatAt w go gi n m F) (hs : MatSep B go gi n) (hTB : 1 < B) (hT : Tab w)
    (hnm : n ≤ m) (hm : m ≤ 1073741824) (hS : ∀ a b, a < n → b < m → Sz (F a b) s) (h5 : szE s n < 549755813888) :
    Calls Tryz.prog 106 #[.slice (some ⟨go, 0, none⟩) n n] w (RetElim B w go n m (elimS n n 0 F 0)) := by
  have hBw : B ≤ w.heap.size := by have := hs.lo; have := h.lt; omega
  have H0 := Lib.hid h
  have HS0 := Lib.hid hS
  have HP0 := Lib.hid hs
  have TB := Lib.hid hT
  clear h hT hS hs
  obtain ⟨R, hR⟩ : ∃ R, R = elimS n n 0 F 0 := ⟨_, rfl⟩
  rw [← hR]
  have HR := Lib.hid hR
  clear hR
  go_enter Tryz.func106, Tryz.ntmps106
  go_wp2
  go_loopw [8, 3] (fun j e wr => ∃ (c ex : Nat) (g1 : Nat → Nat) (F1 : Nat → Nat → Cx), j = .int .i64 c ∧ e = .int .i64 ex ∧ c ≤ n ∧ ex ≤ c ∧ R = elimS n (n - c) c F1 ex ∧ MatAt wr go g1 n m F1 ∧ MatSep B go g1 n ∧ Below B w wr ∧ (∀ a b, a < n → b < m → Sz (F1 a b) (szE s c))) (fun j _ _ => n - (intOf j).toNat)
  case atStart => exact ⟨0, 0, gi, F, rfl, rfl, by omega, by omega, HR.out, H0.out, HP0.out, Below.refl _ _, HS0.out⟩
  case round =>
    obtain ⟨c, ex, g1, F1, rfl, rfl, hcn, hex, hE, hM, hP, hB, hS⟩ := hrel
    have hBr : B ≤ wr.heap.size := Nat.le_trans hBw hB.size
    have HE := Lib.hid hE
    have H := Lib.hid hM
    have HP := Lib.hid hP
    have KB := Lib.hid hB
    have HS := Lib.hid hS
    clear hE hM hP hB hS
    by_cases hlt : c < n
    · have hpv := Lib.hid (pivotN_any wr go g1 n m c c F1 H.out (by omega) (by omega) (by omega) hm)
      have hsz : szE s (c + 1) ≤ szE s n := szE_mono s (by omega)
      have hsz' : 5 * szE s c + 4 < 549755813888 := by rw [szE] at hsz; omega
      clear hsz
      rcases pivF_cases F1 c (n - c) c with ⟨hp, -⟩ | ⟨p, hcp, hpn, hp, -, -⟩
      · have HRf := Lib.hid (show R = (c, ex, F1) by rw [HE.out, show n - c = (n - c - 1) + 1 by omega, elimS, if_pos (by rw [hp]; omega)])
        rw [hp] at hpv
        clear hp
        go_wp2_with fail
        refine hpv.out.mono ?_
        rintro e W2 ⟨rfl, hb2⟩
        have HB2 := Lib.hid hb2
        clear hb2
        go_wp2
        go_ret2
        exact ⟨g1, by rw [HRf.out]; rfl, by rw [HRf.out]; exact H.out.below HB2.out, HP.out, KB.out.trans (HB2.out.mono hBr)⟩
      · rw [hp] at hpv
        have hp0 : ¬ ((p : Int) < 0) := by omega
        by_cases hpc : p = c
        · subst hpc
          have HRf := Lib.hid (show R = elimS n (n - (p + 1)) (p + 1) (clearF F1 p p n) ex by rw [HE.out, show n - p = (n - (p + 1)) + 1 by omega, elimS, if_neg (by rw [hp]; omega), if_pos hp])
          clear hp
          go_wp2_with fail
          refine hpv.out.mono ?_
          rintro e W2 ⟨rfl, hb2⟩
          have HB2 := Lib.hid (KB.out.trans (hb2.mono hBr))
          have HM2 := Lib.hid (H.out.below hb2)
          clear hb2
          go_wp2_with fail
          refine (clearBelowN_any B _ go g1 n m p p (szE s p) F1 HM2.out HP.out hTB (TB.out.belowB hTB HB2.out) hlt (by omega) (by omega) hm HS.out hsz').mono ?_
          rintro e W3 ⟨rfl, hm3, hb3⟩
          have HM3 := Lib.hid hm3
          have HB3 := Lib.hid (HB2.out.trans hb3)
          clear hm3 hb3
          go_wp2
          go_roundw
          case rel => exact ⟨p + 1, ex, g1, _, by go_num, rfl, by omega, by omega, HRf.out, HM3.out, HP.out, HB3.out, Sz.clearF HS.out hlt (by omega)⟩
          case measure => simp [intOf]; omega
        · have HRf := Lib.hid (show R = elimS n (n - (c + 1)) (c + 1) (clearF (swp F1 c p) c c n) (ex + 1) by rw [HE.out, show n - c = (n - (c + 1)) + 1 by omega, elimS, if_neg (by rw [hp]; omega), if_neg (by rw [hp]; omega), hp]; rfl)
          clear hp
          have hpc' : ((p : Int) == (c : Int)) = false := by simp; omega
          have hpn' : p < n := by omega
          go_wp2_with fail
          refine hpv.out.mono ?_
          rintro e W2 ⟨rfl, hb2⟩
          have HB2 := Lib.hid (KB.out.trans (hb2.mono hBr))
          have HM2 := Lib.hid (H.out.below hb2)
          clear hb2
          have x1 := HM2.out.cell hlt
          have x2 := HM2.out.cell hpn'
          have y1 := HM2.out.frozen c
          have y2 := HM2.out.frozen p
          go_upto_region 8 with fail
          have i1 : (c : Int) < (n : Int) := by omega
          have i2 : (p : Int) < (n : Int) := by omega
          have i3 : (0 : Int) ≤ (c : Int) := by omega
          have n1 : ¬ c = p := by omega
          have x3 : (W2.drew.setCell ⟨go, c, none⟩ (.slice (some ⟨g1 p, 0, none⟩) m m)).cell? ⟨go, p, none⟩ = some (.slice (some ⟨g1 p, 0, none⟩) m m) := by
            rw [World.cell?_setCell_other _ _ _ _ (by intro e; injection e with _ e; exact n1 e)]
            exact x2
          go_region
          obtain ⟨m5, s5, b5⟩ := HM2.out.swap HP.out hlt hpn' n1
          have m6 := m5.below (W' := World.drew _) ((Below.refl _ _).drew)
          have b6 := b5.drew
          have HM6 := Lib.hid m6
          have HP6 := Lib.hid s5
          have HB6 := Lib.hid (HB2.out.trans b6)
          clear x1 x2 y1 y2 x3 m5 s5 b5 m6 b6
          generalize ((W2.setCell ⟨go, c, none⟩ (.slice (some ⟨g1 p, 0, none⟩) m m)).setCell ⟨go, p, none⟩ (.slice (some ⟨g1 c, 0, none⟩) m m)).drew = W6 at *
          go_wp2_with fail
          refine (clearBelowN_any B W6 go (swp g1 c p) n m c c (szE s c) (swp F1 c p) HM6.out HP6.out hTB (TB.out.belowB hTB HB6.out) hlt (by omega) (by omega) hm (Sz.swp HS.out hlt hpn') hsz').mono ?_
          rintro e W3 ⟨rfl, hm3, hb3⟩
          have HM3 := Lib.hid hm3
          have HB3 := Lib.hid (HB6.out.trans hb3)
          clear hm3 hb3
          go_wp2
          go_roundw
          case rel => exact ⟨c + 1, ex + 1, swp g1 c p, _, by go_num, by go_num, by omega, by omega, HRf.out, HM3.out, HP6.out, HB3.out, Sz.clearF (Sz.swp HS.out hlt hpn') hlt (by omega)⟩
          case measure => simp [intOf]; omega
    · obtain rfl : c = n := by omega
      have HRf := Lib.hid (show R = (c, ex, F1) by rw [HE.out, Nat.sub_self, elimS])
      go_wp2
      go_ret2
      exact ⟨g1, by rw [HRf.out]; rfl, by rw [HRf.out]; exact H.out, HP.out, KB.out⟩
end Go.Proofs.YtlljeccfhmojnaaGreatDoor
