import Derived.Deep.LoopGhost
import Derived.Test.YtphlmmjlpbledaaGreatDoorH02
import Derived.Test.YtphlmmjlpbledaaGreatDoorH31
set_option linter.unusedSimpArgs false
set_option linter.unusedVariables false
namespace Go.Proofs.YtphlmmjlpbledaaGreatDoor
open Go.RowKit
set_option maxRecDepth 100000
def sl (l : List UInt8) : ByteArray := ⟨l.toArray⟩
theorem sl_size (l : List UInt8) : (sl l).size = l.length := by simp [sl, ByteArray.size]
theorem sl_data (l : List UInt8) : (sl l).data.toList = l := rfl
theorem size_data (s : ByteArray) : s.data.toList.length = s.size := by cases s; rfl
theorem sl_extract (s : ByteArray) (a b : Nat) : s.extract a b = sl ((s.data.toList.drop a).take (b - a)) := by
  have := ByteArray.extract_mk s.data.toList a b
  cases s
  exact this
def Rd (w : World) (g : Nat) (s : ByteArray) (k : Nat) : Prop := w.heap[g]? = some (.cells #[.string s, .int .i64 (k : Int)] 165 (0, 0))
def RdL (w : World) (g : Nat) (s : ByteArray) (l : List UInt8) : Prop := ∃ k, k ≤ s.size ∧ Rd w g s k ∧ s.data.toList.drop k = l
theorem Rd.lt {w : World} {g : Nat} {s : ByteArray} {k : Nat} (h : Rd w g s k) : g < w.heap.size := by
  rcases Nat.lt_or_ge g w.heap.size with hlt | hge
  · exact hlt
  · unfold Rd at h; rw [Array.getElem?_eq_none hge] at h; cases h
theorem Rd.cells {w : World} {g : Nat} {s : ByteArray} {k : Nat} (h : Rd w g s k) : w.cell? ⟨g, 0, none⟩ = some (.string s) ∧ w.cell? ⟨g, 1, none⟩ = some (.int .i64 (k : Int)) ∧ w.frozen? ⟨g, 1, none⟩ = false := by
  refine ⟨?_, ?_, ?_⟩
  · rw [cell_of_row w g 0 _ _ (0, 0) h]; rfl
  · rw [cell_of_row w g 1 _ _ (0, 0) h]; rfl
  · unfold Rd at h
    simp [World.frozen?, h]
theorem Rd.keep {w w' : World} {g : Nat} {s : ByteArray} {k : Nat} (h : Rd w g s k) (hb : w'.heap[g]? = w.heap[g]?) : Rd w' g s k := hb.trans h
theorem Rd.set {w : World} {g : Nat} {s : ByteArray} {k : Nat} (h : Rd w g s k) (k' : Nat) : Rd (w.setCell ⟨g, 1, none⟩ (.int .i64 (k' : Int))) g s k' := by
  unfold Rd at h ⊢
  simp [World.setCell, Array.getElem?_modify, h]
theorem RdL.keep {w w' : World} {g : Nat} {s : ByteArray} {l : List UInt8} (h : RdL w g s l) (hb : w'.heap[g]? = w.heap[g]?) : RdL w' g s l := by
  obtain ⟨k, h1, h2, h3⟩ := h
  exact ⟨k, h1, h2.keep hb, h3⟩
theorem RdL.below {w w' : World} {g : Nat} {s : ByteArray} {l : List UInt8} (h : RdL w g s l) (hb : Below w.heap.size w w') : RdL w' g s l := by
  obtain ⟨k, h1, h2, h3⟩ := h
  exact ⟨k, h1, h2.keep (hb.block g h2.lt), h3⟩
theorem RdL.lt {w : World} {g : Nat} {s : ByteArray} {l : List UInt8} (h : RdL w g s l) : g < w.heap.size := by
  obtain ⟨k, h1, h2, h3⟩ := h
  exact h2.lt
theorem drop_step {s : ByteArray} {k : Nat} (h : k < s.size) : s.data.toList.drop k = s[k] :: s.data.toList.drop (k + 1) := by
  rw [List.drop_eq_getElem_cons (by rw [size_data]; exact h)]
  rfl
theorem drop_end {s : ByteArray} : s.data.toList.drop s.size = [] := List.drop_of_length_le (by rw [size_data]; exact Nat.le_refl _)
theorem done_any (g : Nat) (s : ByteArray) (k : Nat) (w : World) (h : Rd w g s k) (hk : k ≤ s.size) (hs : s.size ≤ 1000000) :
    Calls Tryz.prog 117 #[.pointer (some ⟨g, 0, none⟩)] w fun e w' => e = .returned (.bool (decide (k = s.size))) ∧ ∃ q, w' = w.drewN q := by
  obtain ⟨c0, c1, -⟩ := h.cells
  have hd : ((k : Int) == (s.size : Int)) = decide (k = s.size) := by rw [Bool.eq_iff_iff]; simp; omega
  clear h
  go_enter Tryz.func117, Tryz.ntmps117
  go_wp2
  go_quiet (fail)
  go_wp2
  go_ret
  exact ⟨rfl, _, rfl⟩
theorem done_t (g : Nat) (s : ByteArray) (w : World) (h : Rd w g s s.size) (hs : s.size ≤ 1000000) :
    Calls Tryz.prog 117 #[.pointer (some ⟨g, 0, none⟩)] w fun e w' => e = .returned (.bool true) ∧ ∃ q, w' = w.drewN q :=
  (done_any g s _ w h (Nat.le_refl _) hs).mono fun _ _ ⟨h1, h2⟩ => ⟨by rw [h1]; simp, h2⟩
theorem done_f (g : Nat) (s : ByteArray) (k : Nat) (w : World) (h : Rd w g s k) (hk : k < s.size) (hs : s.size ≤ 1000000) :
    Calls Tryz.prog 117 #[.pointer (some ⟨g, 0, none⟩)] w fun e w' => e = .returned (.bool false) ∧ ∃ q, w' = w.drewN q :=
  (done_any g s k w h (Nat.le_of_lt hk) hs).mono fun _ _ ⟨h1, h2⟩ => ⟨by rw [h1, decide_eq_false (by omega)], h2⟩
def RetTake (w : World) (g : Nat) (s : ByteArray) (b : UInt8) (l : List UInt8) (e : Ending) (w' : World) : Prop :=
  e = .returned (.bool (isHd b l)) ∧ RdL w' g s (off b l) ∧ w.grownBy w' (some g)
set_option maxHeartbeats 1000000 in
theorem take_any (g : Nat) (s : ByteArray) (b : UInt8) (l : List UInt8) (w : World) (h : RdL w g s l) (hs : s.size ≤ 1000000) :
    Calls Tryz.prog 115 #[.pointer (some ⟨g, 0, none⟩), .int .u8 (b.toNat : Int)] w (RetTake w g s b l) := by
  obtain ⟨k, hk, hR, hl⟩ := h
  obtain ⟨c0, c1, f1⟩ := hR.cells
  have hg := hR.lt
  by_cases hlt : k < s.size
  · have hst := drop_step hlt
    rw [hl] at hst
    have HR := Lib.hid hR
    by_cases hb : s[k] = b
    · have H1 := Lib.hid (show isHd b l = true by rw [hst, hb]; exact isHd_self _ _)
      have H2 := Lib.hid (show off b l = s.data.toList.drop (k + 1) by rw [hst, hb]; exact off_pos)
      have hq : ((s[k].toNat : Int) != (b.toNat : Int)) = false := by rw [hb]; simp
      clear hst hl hR hk hb
      go_enter Tryz.func115, Tryz.ntmps115
      go_wp2
      go_quiet ((go_at_call 117; exact Calls.quiet_of (done_f g s k _ HR.out hlt hs)))
      go_wp2
      go_ret
      refine ⟨by rw [H1.out]; rfl, ⟨k + 1, by omega, ?_, H2.out.symm⟩, ?_⟩
      · exact (Rd.set (w := w) HR.out (k + 1)).keep rfl
      · exact grown_trans (grown_drewN (grown_refl _ _) _) (grown_set _ _ _ _)
    · have H1 := Lib.hid (show isHd b l = false by rw [hst]; exact isHd_ne hb _)
      have H2 := Lib.hid (show off b l = s.data.toList.drop k by rw [off_neg H1.out, hl])
      have hq : ((s[k].toNat : Int) != (b.toNat : Int)) = true := by
        simp
        intro e
        exact hb (UInt8.toNat_inj.1 (by omega))
      clear hst hl hR hb
      go_enter Tryz.func115, Tryz.ntmps115
      go_wp2
      go_quiet ((go_at_call 117; exact Calls.quiet_of (done_f g s k _ HR.out hlt hs)))
      go_wp2
      go_ret
      exact ⟨by rw [H1.out]; rfl, ⟨k, hk, HR.out, H2.out.symm⟩, grown_drewN (grown_refl _ _) _⟩
  · have hke : k = s.size := by omega
    subst hke
    rw [drop_end] at hl
    subst hl
    have HR := Lib.hid hR
    clear hR hk hlt
    go_enter Tryz.func115, Tryz.ntmps115
    go_wp2
    go_quiet ((go_at_call 117; exact Calls.quiet_of (done_t g s _ HR.out hs)))
    go_wp2
    go_ret
    exact ⟨rfl, ⟨s.size, Nat.le_refl _, HR.out, drop_end⟩, grown_drewN (grown_refl _ _) _⟩
def RetDigs (w : World) (g : Nat) (s : ByteArray) (d r : List UInt8) (e : Ending) (w' : World) : Prop :=
  e = .returned (.string (sl d)) ∧ RdL w' g s r ∧ w.grownBy w' (some g)
theorem digs_of {L : List UInt8} {a k : Nat} (h1 : a ≤ k) (h2 : ∀ c ∈ (L.drop a).take (k - a), dgt c = true) (h3 : ∀ c ∈ (L.drop k).head?, dgt c = false) :
    digs (L.drop a) = (L.drop a).take (k - a) ∧ past (L.drop a) = L.drop k := by
  have e : L.drop a = (L.drop a).take (k - a) ++ L.drop k := by
    have := (List.take_append_drop (k - a) (L.drop a)).symm
    rw [List.drop_drop, show a + (k - a) = k by omega] at this
    exact this
  have h := digs_app h2 h3
  rw [← e] at h
  exact h
theorem digits_step {s : ByteArray} {a k : Nat} (h1 : a ≤ k) (h : k < s.size) (h2 : ∀ c ∈ (s.data.toList.drop a).take (k - a), dgt c = true) (hd : dgt s[k] = true) :
    ∀ c ∈ (s.data.toList.drop a).take (k + 1 - a), dgt c = true := by
  have e : (s.data.toList.drop a).take (k + 1 - a) = (s.data.toList.drop a).take (k - a) ++ [s[k]] := by
    rw [show k + 1 - a = (k - a) + 1 by omega, List.take_succ_eq_append_getElem (by rw [List.length_drop, size_data]; omega)]
    congr 2
    rw [List.getElem_drop]
    have e2 : a + (k - a) = k := by omega
    simp only [e2]
    rfl
  intro c hc
  rw [e] at hc
  rcases List.mem_append.1 hc with h | h
  · exact h2 c h
  · rw [List.mem_singleton.1 h]; exact hd
def DgRel (w : World) (g : Nat) (s : ByteArray) (a m : Nat) (wr : World) : Prop :=
  ∃ k, a ≤ k ∧ k ≤ s.size ∧ Rd wr g s k ∧ (∀ c ∈ (s.data.toList.drop a).take (k - a), dgt c = true) ∧ w.grownBy wr (some g) ∧ s.size - k ≤ m
set_option maxHeartbeats 1000000 in
theorem digits_any (g : Nat) (s : ByteArray) (l : List UInt8) (w : World) (h : RdL w g s l) (hs : s.size ≤ 1000000) :
    Calls Tryz.prog 169 #[.pointer (some ⟨g, 0, none⟩)] w (RetDigs w g s (digs l) (past l)) := by
  obtain ⟨a, ha, hR, hl⟩ := h
  obtain ⟨c0, c1, f1⟩ := hR.cells
  have HR0 := Lib.hid hR
  subst hl
  go_enter Tryz.func169, Tryz.ntmps169
  go_wp2
  clear c0 c1 f1 hR
  go_loopg [] (s.size - a) (fun m wr => DgRel w g s a m wr)
  case atStart => exact ⟨a, Nat.le_refl _, ha, HR0.out, by simp, grown_refl _ _, Nat.le_refl _⟩
  case round =>
    obtain ⟨k, hak, hk, hR, hd, hgr, hm⟩ := hrel
    obtain ⟨c0, c1, f1⟩ := hR.cells
    have hg := hR.lt
    have HR := Lib.hid hR
    have HD := Lib.hid hd
    have HG := Lib.hid hgr
    have HM := Lib.hid hm
    clear hR hd hgr HR0 hm
    by_cases hlt : k < s.size
    · have hst := drop_step hlt
      by_cases hdg : dgt s[k] = true
      · have h1 : (48 : Int) ≤ (s[k].toNat : Int) := by unfold dgt at hdg; simp at hdg; omega
        have h2 : (s[k].toNat : Int) ≤ 57 := by unfold dgt at hdg; simp at hdg; omega
        have H1 := Lib.hid (digits_step hak hlt HD.out hdg)
        clear hdg hst
        go_wp2
        go_quiet ((go_at_call 117; exact Calls.quiet_of (done_f g s k _ HR.out hlt hs)))
        go_wp2
        go_roundg (s.size - (k + 1))
        case rel => exact ⟨k + 1, by omega, by omega, (Rd.set (w := wr) HR.out (k + 1)).keep rfl, H1.out, grown_trans HG.out (grown_trans (grown_drewN (grown_refl _ _) _) (grown_set _ _ _ _)), by have := HM.out; omega⟩
        case measure => have := HM.out; omega
      · have hfin := digs_of (L := s.data.toList) hak HD.out (by rw [hst]; simpa using hdg)
        have H1 := Lib.hid hfin
        have hex := sl_extract s a k
        rw [← hfin.1] at hex
        clear hfin hst
        by_cases h1 : 48 ≤ s[k].toNat
        · have h2 : ¬ s[k].toNat ≤ 57 := fun h => hdg (by unfold dgt; simp; omega)
          have h3 : (48 : Int) ≤ (s[k].toNat : Int) := by omega
          have h4 : decide ((s[k].toNat : Int) ≤ 57) = false := by simp; omega
          clear hdg
          go_wp2
          go_quiet ((go_at_call 117; exact Calls.quiet_of (done_f g s k _ HR.out hlt hs)))
          go_wp2
          go_quiet (fail)
          go_wp2
          go_ret
          exact ⟨rfl, ⟨k, hk, HR.out, H1.out.2.symm⟩, grown_drewN (grown_drewN HG.out _) _⟩
        · have h4 : decide ((48 : Int) ≤ (s[k].toNat : Int)) = false := by simp; omega
          clear hdg
          go_wp2
          go_quiet ((go_at_call 117; exact Calls.quiet_of (done_f g s k _ HR.out hlt hs)))
          go_wp2
          go_quiet (fail)
          go_wp2
          go_ret
          exact ⟨rfl, ⟨k, hk, HR.out, H1.out.2.symm⟩, grown_drewN (grown_drewN HG.out _) _⟩
    · obtain rfl : k = s.size := by omega
      have hfin := digs_of (L := s.data.toList) hak HD.out (by rw [drop_end]; simp)
      have H1 := Lib.hid hfin
      have hex := sl_extract s a s.size
      rw [← hfin.1] at hex
      clear hfin hlt
      go_wp2
      go_quiet ((go_at_call 117; exact Calls.quiet_of (done_t g s _ HR.out hs)))
      go_wp2
      go_quiet (fail)
      go_wp2
      go_ret
      exact ⟨rfl, ⟨s.size, Nat.le_refl _, HR.out, H1.out.2.symm⟩, grown_drewN (grown_drewN HG.out _) _⟩
def RetWhole (w : World) (g : Nat) (s : ByteArray) (d r : List UInt8) (ok : Bool) (e : Ending) (w' : World) : Prop :=
  e = .returned (.tuple #[.string (sl d), .bool ok]) ∧ RdL w' g s r ∧ w.grownBy w' (some g)
theorem sl_list (d : List UInt8) : (sl d).toList = d := by rw [ByteArray.toList_eq]; rfl
set_option maxHeartbeats 1000000 in
theorem whole_any (g : Nat) (s : ByteArray) (l : List UInt8) (w : World) (h : RdL w g s l) (hs : s.size ≤ 1000000) :
    Calls Tryz.prog 167 #[.pointer (some ⟨g, 0, none⟩)] w (RetWhole w g s (digs l) (past l) (okW (digs l))) := by
  have H := Lib.hid (fun W (h : RdL W g s l) => digits_any g s l W h hs)
  have H0 := Lib.hid h
  clear h hs
  generalize past l = r at *
  have e0 := sl_list (digs l)
  have e4 := sl_size (digs l)
  generalize hd : digs l = d at *
  clear hd
  rcases d with _ | ⟨c, t⟩
  · have H1 := Lib.hid (show okW [] = false by rfl)
    have e1 : ((sl []).toList == [48]) = false := by rw [e0]; rfl
    have e2 : ((sl []).toList == []) = true := by rw [e0]; rfl
    have e3 : (sl []).toList.isEmpty = true := by rw [e0]; rfl
    clear e0 e4
    go_enter Tryz.func167, Tryz.ntmps167
    go_wp2_with fail
    refine (H.out _ H0.out).mono ?_
    rintro e w2 ⟨rfl, hr, hg⟩
    go_wp2
    go_quiet (fail)
    go_wp2
    go_ret2
    exact ⟨by rw [H1.out]; rfl, hr, grown_drewN hg _⟩
  · have e3 : (sl (c :: t)).toList.isEmpty = false := by rw [e0]; rfl
    have e2 : ((sl (c :: t)).toList == []) = false := by rw [e0]; rfl
    have e5 : 0 < (sl (c :: t)).size := by rw [e4]; simp
    by_cases h1 : c = 48 ∧ t = []
    · obtain ⟨rfl, rfl⟩ := h1
      have H1 := Lib.hid (show okW [48] = true by rfl)
      have e1 : ((sl [48]).toList == [48]) = true := by rw [e0]; rfl
      clear e0 e4
      go_enter Tryz.func167, Tryz.ntmps167
      go_wp2_with fail
      refine (H.out _ H0.out).mono ?_
      rintro e w2 ⟨rfl, hr, hg⟩
      go_wp2
      go_quiet (fail)
      go_wp2
      go_ret2
      exact ⟨by rw [H1.out]; rfl, hr, grown_drewN hg _⟩
    · have e1 : ((sl (c :: t)).toList == [48]) = false := by
        rw [e0]
        simp
        exact fun h => fun h' => h1 ⟨h, h'⟩
      have e6 : (sl (c :: t))[0] = c := rfl
      by_cases h2 : c = 48
      · have H1 := Lib.hid (show okW (c :: t) = false by simp [okW, h2]; exact fun h => h1 ⟨h2, h⟩)
        have e7 : (((sl (c :: t))[0].toNat : Int) != 48) = false := by rw [e6, h2]; rfl
        clear e0 e4 e6 h1 h2
        go_enter Tryz.func167, Tryz.ntmps167
        go_wp2_with fail
        refine (H.out _ H0.out).mono ?_
        rintro e w2 ⟨rfl, hr, hg⟩
        go_wp2
        go_quiet (fail)
        go_wp2
        go_ret2
        exact ⟨by rw [H1.out]; rfl, hr, grown_drewN hg _⟩
      · have H1 := Lib.hid (show okW (c :: t) = true by simp [okW, h2])
        have e7 : (((sl (c :: t))[0].toNat : Int) != 48) = true := by
          rw [e6]; simp
          intro e
          exact h2 (UInt8.toNat_inj.1 (by simpa using (show c.toNat = 48 by omega)))
        clear e0 e4 e6 h1 h2
        go_enter Tryz.func167, Tryz.ntmps167
        go_wp2_with fail
        refine (H.out _ H0.out).mono ?_
        rintro e w2 ⟨rfl, hr, hg⟩
        go_wp2
        go_quiet (fail)
        go_wp2
        go_ret2
        exact ⟨by rw [H1.out]; rfl, hr, grown_drewN hg _⟩
end Go.Proofs.YtphlmmjlpbledaaGreatDoor
