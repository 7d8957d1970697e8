import Derived.Test.YtphlmmjlpbledaaGreatDoorK18
import Derived.Test.YtphlmmjlpbledaaGreatDoorK21
import Derived.Test.YtphlmmjlpbledaaGreatDoorK23
import Derived.Test.YtphlmmjlpbledaaGreatDoorK38
import Derived.Test.YtphlmmjlpbledaaGreatDoorK40
set_option linter.unusedSimpArgs false
set_option linter.unusedVariables false
namespace Go.Proofs.YtphlmmjlpbledaaGreatDoor
open Go.RowKit
set_option maxRecDepth 100000
theorem readNumber_any (s : ByteArray) (w : World) (hs : s.size ≤ 100000) : Calls Tryz.prog 53 #[.string s] w (RetParts w s.data.toList) := by
  rcases h1 : pMag (off 45 s.data.toList) with _ | ⟨a, b, r⟩
  · exact rn_none s 0 0 0 0 [] [] w hs h1
  rcases h2 : isHd 105 r with _ | _
  · by_cases h3 : r = []
    · exact rn_re s a b 0 0 r [] w hs h1 h3
    rcases h4 : isHd 45 r with _ | _
    · rcases h5 : isHd 43 r with _ | _
      · exact rn_nosign s a b 0 0 r [] w hs h1 h2 h3 h4 h5
      · rcases h6 : pMag r.tail with _ | ⟨a2, b2, r2⟩
        · exact rn_43_none s a b 0 0 r [] w hs h1 h2 h3 h4 h5 h6
        · rcases h7 : isHd 105 r2 with _ | _
          · exact rn_43_noi s a b a2 b2 r r2 w hs h1 h2 h3 h4 h5 h6 h7
          · by_cases h8 : r2.tail = []
            · exact rn_43_t s a b a2 b2 r r2 w hs h1 h2 h3 h4 h5 h6 h7 h8
            · exact rn_43_f s a b a2 b2 r r2 w hs h1 h2 h3 h4 h5 h6 h7 h8
    · rcases h6 : pMag r.tail with _ | ⟨a2, b2, r2⟩
      · exact rn_45_none s a b 0 0 r [] w hs h1 h2 h3 h4 h6
      · rcases h7 : isHd 105 r2 with _ | _
        · exact rn_45_noi s a b a2 b2 r r2 w hs h1 h2 h3 h4 h6 h7
        · by_cases h8 : r2.tail = []
          · exact rn_45_t s a b a2 b2 r r2 w hs h1 h2 h3 h4 h6 h7 h8
          · exact rn_45_f s a b a2 b2 r r2 w hs h1 h2 h3 h4 h6 h7 h8
  · by_cases h3 : r.tail = []
    · exact rn_it s a b 0 0 r [] w hs h1 h2 h3
    · exact rn_if s a b 0 0 r [] w hs h1 h2 h3
def PtAt (W : World) (g i : Nat) (p : Pt) : Prop := ∃ A n c A' n' c', W.cell? ⟨g, i * 4, none⟩ = some (.slice A n c) ∧ W.cell? ⟨g, i * 4 + 1, none⟩ = some (.slice A' n' c') ∧ W.cell? ⟨g, i * 4 + 2, none⟩ = some (.bool p.neg) ∧ W.cell? ⟨g, i * 4 + 3, none⟩ = some (.bool p.im) ∧
  IsNat W (.slice A n c) p.a ∧ IsNat W (.slice A' n' c') p.b
def RetPs (w : World) (ps : List Pt) (e : Ending) (w' : World) : Prop := ∃ g, e = .returned (.tuple #[.slice (some ⟨g, 0, none⟩) ps.length ps.length, .bool true]) ∧ g < w'.heap.size ∧ (∀ i (h : i < ps.length), PtAt w' g i ps[i]) ∧ Below w.heap.size w w'
def RetBad (w : World) (e : Ending) (w' : World) : Prop := ∃ v, e = .returned (.tuple #[v, .bool false]) ∧ Below w.heap.size w w'
theorem read_bad (s : ByteArray) (w : World) (hs : s.size ≤ 100000) (h : pNum s.data.toList = none) : Calls Tryz.prog 53 #[.string s] w (RetBad w) :=
  (readNumber_any s w hs).mono fun e w' ⟨h1, h2⟩ => by
    rw [h] at h2
    obtain ⟨v, h2⟩ := h2
    exact ⟨v, h2, h1⟩
theorem read_good (s : ByteArray) (ps : List Pt) (w : World) (hs : s.size ≤ 100000) (h : pNum s.data.toList = some ps) : Calls Tryz.prog 53 #[.string s] w (RetPs w ps) :=
  (readNumber_any s w hs).mono fun e w' ⟨h1, h2⟩ => by
    rw [h] at h2
    match ps, h2 with
    | [], h2 => exact h2.elim
    | [p], ⟨v, h3, g, va, vb, hv, h5, h6, h7⟩ =>
      subst hv
      obtain ⟨A1, n1, c1, rfl, -⟩ := h6.ex
      obtain ⟨A2, n2, c2, rfl, -⟩ := h7.ex
      refine ⟨g, h3, block_lt' h5, fun i hi => ?_, h1⟩
      obtain rfl : i = 0 := by simpa using hi
      exact ⟨A1, n1, c1, A2, n2, c2, by rw [cell_of_row w' g _ _ _ (0, 0) h5]; rfl, by rw [cell_of_row w' g _ _ _ (0, 0) h5]; rfl, by rw [cell_of_row w' g _ _ _ (0, 0) h5]; rfl, by rw [cell_of_row w' g _ _ _ (0, 0) h5]; rfl, h6, h7⟩
    | [p, q], ⟨v, h3, g, va, vb, vc, vd, hv, h5, h6, h7, h8, h9⟩ =>
      subst hv
      obtain ⟨A1, n1, c1, rfl, -⟩ := h6.ex
      obtain ⟨A2, n2, c2, rfl, -⟩ := h7.ex
      obtain ⟨A3, n3, c3, rfl, -⟩ := h8.ex
      obtain ⟨A4, n4, c4, rfl, -⟩ := h9.ex
      refine ⟨g, h3, block_lt' h5, fun i hi => ?_, h1⟩
      have hi2 : i = 0 ∨ i = 1 := by have : i < 2 := by simpa using hi
                                     omega
      rcases hi2 with rfl | rfl
      · exact ⟨A1, n1, c1, A2, n2, c2, by rw [cell_of_row w' g _ _ _ (0, 0) h5]; rfl, by rw [cell_of_row w' g _ _ _ (0, 0) h5]; rfl, by rw [cell_of_row w' g _ _ _ (0, 0) h5]; rfl, by rw [cell_of_row w' g _ _ _ (0, 0) h5]; rfl, h6, h7⟩
      · exact ⟨A3, n3, c3, A4, n4, c4, by rw [cell_of_row w' g _ _ _ (0, 0) h5]; rfl, by rw [cell_of_row w' g _ _ _ (0, 0) h5]; rfl, by rw [cell_of_row w' g _ _ _ (0, 0) h5]; rfl, by rw [cell_of_row w' g _ _ _ (0, 0) h5]; rfl, h8, h9⟩
    | p :: q :: r :: l, h2 => exact h2.elim
theorem PtAt.below {W W' : World} {g i : Nat} {p : Pt} (h : PtAt W g i p) (hb : Below W.heap.size W W') (hg : g < W.heap.size) : PtAt W' g i p := by
  obtain ⟨A, n, c, A', n', c', h1, h2, h3, h4, h5, h6⟩ := h
  exact ⟨A, n, c, A', n', c', (hb.cell hg).trans h1, (hb.cell hg).trans h2, (hb.cell hg).trans h3, (hb.cell hg).trans h4, h5.below hb, h6.below hb⟩
abbrev zN : Value := .agg #[.slice none 0 0, .bool false, .slice none 0 0, .bool false, .slice none 0 0]
abbrev zw (w : World) : World := w.alloc (.cells #[.slice none 0 0, .bool false, .slice none 0 0, .bool false, .slice none 0 0] 28)
theorem parse_long (s : ByteArray) (w : World) (h : 4096 < s.size) (hs : s.size ≤ 1000000000) : Calls Tryz.prog 12 #[.string s] w (RetNumE w .zero 4) := by
  have hg : (4096 : Int) < (s.size : Int) := by omega
  go_enter Tryz.func12, Tryz.ntmps12
  go_wp2
  refine bodyPost_ret (v := .tuple #[zN, .int .i64 4]) (by simp [results, Tryz.results12, go_sem]) rfl ?_
  exact ⟨_, rfl, IsNum.zero _, below_alloc _ _⟩
theorem parse_form (s : ByteArray) (w : World) (h : s.size ≤ 4096) (hp : pNum s.data.toList = none) : Calls Tryz.prog 12 #[.string s] w (RetNumE w .zero 2) := by
  have hg : ¬ (4096 : Int) < (s.size : Int) := by omega
  have HR := hid (read_bad s (zw w) (by omega) hp)
  clear hp
  go_enter Tryz.func12, Tryz.ntmps12
  go_wp2_with fail
  refine HR.out.mono ?_
  rintro e w2 ⟨v, rfl, hb⟩
  have HB := hid (below_trans (below_alloc w _) hb)
  have X1 : w2.heap[w.heap.size]? = _ := (hb.block w.heap.size (by simp)).trans (heap_alloc_new w _)
  obtain ⟨f0, f1, f2, f3, f4, y0, y1, y2, y3, y4⟩ := bx5 X1
  clear hb
  go_wp2
  have NB : NumBox w2 w.heap.size := .nil f0 f1 f2 f3 f4
  refine bodyPost_ret (v := .tuple #[zN, .int .i64 2]) (by simp [results, Tryz.results12]; exact run_load5e NB _ _ _ _ _ _) rfl ?_
  exact RetNumE.box HB.out (Nat.le_refl _) NB (IsNum.zero _) _ _ _ _ _
def pX (ps : List Pt) : Cx := if hasZero ps then .zero else sumV ps
def pK (ps : List Pt) : Int := if hasZero ps then 3 else 0
theorem sumV_step {ps : List Pt} {k : Nat} (h : k < ps.length) : sumV (ps.take (k + 1)) = (sumV (ps.take k)).add (ptV ps[k]) := by
  unfold sumV
  rw [List.take_succ_eq_append_getElem h, List.foldl_append]
  rfl
theorem zero_step {ps : List Pt} {k : Nat} (h : k < ps.length) : hasZero (ps.take (k + 1)) = (hasZero (ps.take k) || decide (ps[k].b = 0)) := by
  unfold hasZero
  rw [List.take_succ_eq_append_getElem h, List.any_append, List.any_cons, List.any_nil, Bool.or_false]
theorem zero_of {ps : List Pt} {k : Nat} (h : k < ps.length) (hz : ps[k].b = 0) : hasZero ps = true := by
  unfold hasZero
  rw [List.any_eq_true]
  exact ⟨ps[k], List.getElem_mem h, by simpa using hz⟩
theorem ptV_sz (p : Pt) (hb : 0 < p.b) (h1 : wl p.a ≤ 5000) (h2 : wl p.b ≤ 5000) : Sz (ptV p) 20000 := by
  have ht := pt_terms p.a p.b p.neg hb
  have hn : wl (if p.neg then -(p.a : Int) else (p.a : Int)).natAbs ≤ 20000 := by cases p.neg <;> simp <;> omega
  have hz : wl (0 : Int).natAbs ≤ 20000 := by simp [wl_zero]
  obtain ⟨a, b, neg, im⟩ := p
  cases im
  · exact Sz.of hb ht (cx_zero_den b) hn hz (by show wl b ≤ _; have : wl b ≤ 5000 := h2; omega)
  · exact Sz.of hb (cx_zero_den b) ht hz hn (by show wl b ≤ _; have : wl b ≤ 5000 := h2; omega)
theorem frozen_row {w : World} {g : Nat} {cs : Array Value} {T : TypeId} (h : w.heap[g]? = some (.cells cs T (0, 0))) (i : Nat) : w.frozen? ⟨g, i, none⟩ = false := by simp [World.frozen?, h]
theorem PtAt.put {W W' : World} {g i N : Nat} {p : Pt} {T : TypeId} {cs : Array Value} (h : PtAt W g i p) (hp : PutAt W W' N T cs) (hx : Ext W W') (hne : g ≠ N) : PtAt W' g i p := by
  obtain ⟨A, n, c, A', n', c', h1, h2, h3, h4, h5, h6⟩ := h
  have hc : ∀ j, W'.cell? ⟨g, j, none⟩ = W.cell? ⟨g, j, none⟩ := fun j => World.cell?_of_block (w := W) (hp.other _ hne)
  exact ⟨A, n, c, A', n', c', (hc _).trans h1, (hc _).trans h2, (hc _).trans h3, (hc _).trans h4, h5.ext hx, h6.ext hx⟩
theorem NumBox.put {W W' : World} {g N : Nat} {T : TypeId} {cs : Array Value} (h : NumBox W g) (hp : PutAt W W' N T cs) (hne : g ≠ N) : NumBox W' g := by
  have hc : ∀ j, W'.cell? ⟨g, j, none⟩ = W.cell? ⟨g, j, none⟩ := fun j => World.cell?_of_block (w := W) (hp.other _ hne)
  obtain ⟨o0, o1, o2, o3, o4, h0, h1, h2, h3, h4, r⟩ := h
  exact ⟨o0, o1, o2, o3, o4, (hc _).trans h0, (hc _).trans h1, (hc _).trans h2, (hc _).trans h3, (hc _).trans h4, r⟩
theorem frozen_put {W W' : World} {g N i : Nat} {T : TypeId} {cs : Array Value} (hp : PutAt W W' N T cs) (hne : g ≠ N) : W'.frozen? ⟨g, i, none⟩ = W.frozen? ⟨g, i, none⟩ := by
  simp [World.frozen?, hp.other _ hne]
def PrRel (w : World) (ps : List Pt) (g N : Nat) (k : Nat) (iv : Value) (wr : World) : Prop :=
  k ≤ ps.length ∧ iv = .int .i64 (k : Int) ∧ hasZero (ps.take k) = false ∧ (∀ i (h : i < ps.length), PtAt wr g i ps[i]) ∧ NumBox wr w.heap.size ∧ (∀ i, wr.frozen? ⟨w.heap.size, i, none⟩ = false) ∧
    BoxNum wr N (sumV (ps.take k)) ∧ (∀ i, wr.frozen? ⟨N, i, none⟩ = false) ∧ Sz (sumV (ps.take k)) (1 + k * 20001) ∧ w.heap.size < N ∧ g < N ∧ g ≠ w.heap.size ∧ Below w.heap.size w wr
theorem parse_good (s : ByteArray) (ps : List Pt) (w : World) (h : s.size ≤ 4096) (hp : pNum s.data.toList = some ps) (hT : Tab w) :
    Calls Tryz.prog 12 #[.string s] w (RetNumE w (pX ps) (pK ps)) := by
  have hg : ¬ (4096 : Int) < (s.size : Int) := by omega
  have HR := hid (read_good s ps (zw w) (by omega) hp)
  obtain ⟨hps, hbd⟩ := pNum_bd hp
  have HBD := hid (show ∀ p ∈ ps, wl p.a ≤ 5000 ∧ wl p.b ≤ 5000 from fun p hq => by
    obtain ⟨h1, h2⟩ := hbd p hq
    rw [size_data] at h1 h2
    have := wl_ten h1
    have := wl_ten h2
    omega)
  have HPS := hid hps
  have HT := hid hT
  clear hp hbd hT hps
  go_enter Tryz.func12, Tryz.ntmps12
  go_wp2_with fail
  refine HR.out.mono ?_
  rintro e w2 ⟨g, rfl, hgl, hat, hb⟩
  have HB := hid (below_trans (below_alloc w _) hb)
  have X1 : w2.heap[w.heap.size]? = _ := (hb.block w.heap.size (by simp)).trans (heap_alloc_new w _)
  have HX := hid X1
  have HAT := hid hat
  have hsz : w.heap.size < w2.heap.size := by have := hb.size; simp at this; omega
  have hgne : g ≠ w.heap.size := fun e => by
    obtain ⟨A, n, c, A', n', c', -, -, h3, -⟩ := hat 0 (by rcases HPS.out with h | h <;> omega)
    have h4 := (bx5 X1).2.2.1
    subst e
    rw [h3] at h4
    cases h4
  have HF := hid (fun i : Nat => show w2.frozen? ⟨w.heap.size, i, none⟩ = false by simp [World.frozen?, X1])
  clear hb X1 hat HR
  have hpl : ps.length ≤ 2 := by rcases HPS.out with h | h <;> omega
  have hb3 := below_alloc w2 (.cells #[.slice none 0 0, .bool false, .slice none 0 0, .bool false, .slice none 0 0] 28)
  have H0 := hid (show ∃ k, PrRel w ps g w2.heap.size k (.int .i64 0) (zw w2) from ⟨0, by omega, rfl, rfl, fun i hi => (HAT.out i hi).below hb3 hgl, NumBox.of (fun b o hlt => hb3.cell (p := ⟨b, o, none⟩) hlt) hsz (.nil (bx5 HX.out).1 (bx5 HX.out).2.1 (bx5 HX.out).2.2.1 (bx5 HX.out).2.2.2.1 (bx5 HX.out).2.2.2.2.1),
    fun i => (hb3.frozen (p := ⟨w.heap.size, i, none⟩) hsz).trans (HF.out i), .mk (heap_alloc_new _ _) (IsNum.zero _), fun i => frozen_row (heap_alloc_new _ _) i, Sz.zero (by omega), hsz, hgl, hgne, below_trans HB.out hb3⟩)
  clear hb3
  go_wp2
  go_loopw [23] (fun iv wr => ∃ k, PrRel w ps g w2.heap.size k iv wr) (fun iv _ => ps.length - (intOf iv).toNat)
  case atStart => exact H0.out
  case round =>
    clear H0
    obtain ⟨k, hk, rfl, hz, hat, hnb, hf2, hbn, hfn, hs, h1N, hgN, hgne, hb⟩ := hrel
    by_cases hlt : k < ps.length
    · obtain ⟨A1, n1, c1, A2, n2, c2, q0, q1, q2, q3, hna, hnb2⟩ := hat k hlt
      have HPb := HBD.out ps[k] (List.getElem_mem hlt)
      have HZ0 := hid (fun h => zero_of (ps := ps) (k := k) hlt h)
      have HZ1 := hid (zero_step (ps := ps) (k := k) hlt)
      have HS1 := hid (sumV_step (ps := ps) (k := k) hlt)
      have HSP := hid (fun (h0 : 0 < ps[k].b) => ptV_sz ps[k] h0 HPb.1 HPb.2)
      obtain ⟨P, hP⟩ : ∃ P, P = ps[k] := ⟨_, rfl⟩
      rw [← hP] at q2 q3 hna hnb2 HPb HZ0 HZ1 HS1 HSP
      have HA := hid hna
      have HB2 := hid hnb2
      have HAT2 := hid hat
      have HNB := hid hnb
      have HF2 := hid hf2
      have HBN := hid hbn
      have HFN := hid hfn
      have HZ := hid hz
      have HSS := hid hs
      have HBW := hid hb
      clear hP hna hnb hf2 hbn hfn hz hs hb hat HX HF
      by_cases hb0 : P.b = 0
      · obtain ⟨A2', n2', c2', e2, hn2⟩ := hnb2.ex
        cases e2
        rw [hb0, wl_zero] at hn2
        subst hn2
        have H3 := hid (show pX ps = .zero ∧ pK ps = 3 by unfold pX pK; rw [HZ0.out hb0]; exact ⟨rfl, rfl⟩)
        clear hnb2
        go_upto_region 11 with fail
        obtain ⟨W6, hW6⟩ : ∃ W, W = wr.alloc (.cells #[.slice A1 n1 c1, .slice A2 0 c2, .bool P.neg, .bool P.im] 117) := ⟨_, rfl⟩
        rw [← hW6]
        have hb6 : Below wr.heap.size wr W6 := by rw [hW6]; exact below_alloc _ _
        have hlr : w.heap.size < wr.heap.size := Nat.lt_trans h1N HBN.out.lt
        have NB : NumBox W6 w.heap.size := NumBox.of (fun b o hlt => hb6.cell (p := ⟨b, o, none⟩) hlt) hlr HNB.out
        have HNB6 := hid NB
        obtain ⟨o0, o1, o2, o3, o4, k0, k1, k2, k3, k4, -⟩ := NB
        have y0 := (hb6.frozen (p := ⟨w.heap.size, 0, none⟩) hlr).trans (HF2.out 0)
        have y1 := (hb6.frozen (p := ⟨w.heap.size, 1, none⟩) hlr).trans (HF2.out 1)
        have y2 := (hb6.frozen (p := ⟨w.heap.size, 2, none⟩) hlr).trans (HF2.out 2)
        have y3 := (hb6.frozen (p := ⟨w.heap.size, 3, none⟩) hlr).trans (HF2.out 3)
        have y4 := (hb6.frozen (p := ⟨w.heap.size, 4, none⟩) hlr).trans (HF2.out 4)
        have HB6 := hid (below_trans HBW.out hb6)
        clear hW6 hb6 q0 q1 q2 q3
        go_wp2
        refine bodyPost_ret (v := .tuple #[zN, .int .i64 3]) (by simp [results, Tryz.results12]; exact run_load5e HNB6.out _ _ _ _ _ _) rfl ?_
        rw [H3.out.1, H3.out.2]
        exact RetNumE.box HB6.out (Nat.le_refl _) HNB6.out (IsNum.zero _) _ _ _ _ _
      · obtain ⟨A2', n2', c2', e2, hn2⟩ := hnb2.ex
        cases e2
        have hn0 : ((n2 : Int) == 0) = false := by
          have : n2 ≠ 0 := fun e => hb0 (wl_eq_zero.1 (by omega))
          simp
          omega
        have HB0 := hid (show 0 < P.b by omega)
        clear hnb2 hn2 hb0
        go_upto_region 12 with fail
        obtain ⟨W6, hW6⟩ : ∃ W, W = wr.alloc (.cells #[.slice A1 n1 c1, .slice A2 n2 c2, .bool P.neg, .bool P.im] 117) := ⟨_, rfl⟩
        rw [← hW6]
        have hb6 : Below wr.heap.size wr W6 := by rw [hW6]; exact below_alloc _ _
        have hz6 : wr.heap.size < W6.heap.size := by rw [hW6]; simp
        have X6 : W6.heap[wr.heap.size]? = some (.cells #[.slice A1 n1 c1, .slice A2 n2 c2, .bool P.neg, .bool P.im] 117 (0, 0)) := by rw [hW6]; exact heap_alloc_new _ _
        clear hW6 q0 q1 q2 q3
        obtain ⟨A7, n7, c7, p7, A7b, n7b, c7b, p7b, A7c, n7c, c7c, X7, N7⟩ := HBN.out.below hb6
        have hlN := HBN.out.lt
        have z7 : w2.heap.size < W6.heap.size := Nat.lt_trans hlN hz6
        have HA6 := hid (HA.out.below hb6)
        have HB6 := hid (HB2.out.below hb6)
        have HK6 := hid (below_trans HBW.out hb6)
        refine region_last [.val (kIs (.agg #[.slice A7 n7 c7, .bool p7, .slice A7b n7b c7b, .bool p7b, .slice A7c n7c c7c])), .val (kIs (.agg #[.slice A1 n1 c1, .slice A2 n2 c2, .bool P.neg, .bool P.im])), .val (kNum (ptV P)), .val (kNum ((sumV (ps.take k)).add (ptV P)))]
          (by kernel_rfl) (by kernel_rfl) (by kernel_rfl) (by kernel_rfl) (by kernel_rfl) ⟨Stab.b (stab_is _), Stab.b (stab_is _), Stab.b (stab_num _), Stab.b (stab_num _), trivial⟩ (by simp) (ol := _) rfl (by kernel_rfl) ⟨?_, ?_, ?_, ?_, trivial⟩ ?_
        · intro ts W hb hB hp
          intro K hK
          simp only [fillT, Nat.zero_add, Nat.reduceAdd, sA, sB, sC] at hK ⊢
          refine ⟨?_⟩
          refine wp_load_row _ _ rfl w2.heap.size rfl _ _ (0, 0) _ ((hb.block _ z7).trans X7) Tryz.underlying28 rfl (by kernel_rfl) ?_
          exact hK _ _ rfl rfB
        · intro ts W hb hB hp
          intro K hK
          simp only [fillT, Nat.zero_add, Nat.reduceAdd, sA, sB, sC] at hK ⊢
          refine ⟨?_⟩
          refine wp_load_row _ _ rfl wr.heap.size rfl _ _ (0, 0) _ ((hb.block _ hz6).trans X6) Tryz.underlying117 rfl (by kernel_rfl) ?_
          exact hK _ _ rfl rfB
        · intro ts W hb hB hp
          have h1 : ts 1 = _ := hp 1 (by kernel_rfl)
          intro K hK
          simp only [fillT, Nat.zero_add, Nat.reduceAdd, sA, sB, sC, h1] at hK ⊢
          have HK := hid hK
          clear hK hp
          refine ⟨?_⟩
          go_simp
          refine (value_any _ _ P.a P.b P.neg P.im W (HA6.out.below hb) (HB6.out.below hb) HB0.out (by omega) (by omega) (HT.out.below (below_trans HK6.out hb))).mono ?_
          rintro e W9 ⟨r9, rfl, hr9, hb9⟩
          exact HK.out _ _ hr9 hb9
        · intro ts W hb hB hp
          have h0 : ts 0 = _ := hp 0 (by kernel_rfl)
          have h2 : IsNum W (ts 2) (ptV P) := hp 2 (by kernel_rfl)
          intro K hK
          simp only [fillT, Nat.zero_add, Nat.reduceAdd, sA, sB, sC, h0] at hK ⊢
          have HK := hid hK
          clear hK hp
          refine ⟨?_⟩
          go_simp
          refine (addN_any _ (ts 2) _ (ptV P) W (N7.below hb) h2 (1 + k * 20001) 20000 HSS.out (HSP.out HB0.out) (by omega) (HT.out.below (below_trans HK6.out hb))).mono ?_
          rintro e W9 ⟨r9, rfl, hr9, hb9⟩
          exact HK.out _ _ hr9 hb9
        intro ts W3 hb3 hh hap K hK
        have h9 : IsNum W3 (ts 3) ((sumV (ps.take k)).add (ptV P)) := held_num (hh 3 (by simp)) rfl
        obtain ⟨A8, n8, c8, p8, A8b, n8b, c8b, p8b, A8c, n8c, c8c, ia, ib, id, hq, -⟩ := h9.parts
        have Y7 := (hb3.block w2.heap.size z7).trans X7
        have HK := hid hK
        simp only [fillT, Nat.zero_add, Nat.reduceAdd, sA, sB, sC, hq]
        rw [hq] at h9
        clear hh hap hq hK
        refine ⟨?_⟩
        refine wp_store_row _ _ _ rfl w2.heap.size _ rfl rfl _ _ Y7 (by kernel_rfl) rfl (by simp [Value.oneCell']) (HK.out _ _ ?_)
        have hput := putAt_setRow (cs := #[.slice A8 n8 c8, .bool p8, .slice A8b n8b c8b, .bool p8b, .slice A8c n8c c8c]) Y7
        generalize W3.setRow w2.heap.size #[.slice A8 n8 c8, .bool p8, .slice A8b n8b c8b, .bool p8b, .slice A8c n8c c8c] = W4 at *
        have hext := hput.ext Y7 rfl
        have hb13 : Below wr.heap.size wr W3 := below_trans hb6 hb3
        have hlr : w.heap.size < wr.heap.size := Nat.lt_trans h1N hlN
        have HREL := hid (show PrRel w ps g w2.heap.size (k + 1) (.int .i64 ((k + 1 : Nat) : Int)) W4 from
          ⟨hlt, rfl, by rw [HZ1.out, HZ.out, decide_eq_false (by have := HB0.out; omega)]; rfl,
            fun i hi => ((HAT2.out i hi).below hb13 (Nat.lt_trans hgN hlN)).put hput hext (by omega),
            (NumBox.of (fun b o hlt => hb13.cell (p := ⟨b, o, none⟩) hlt) hlr HNB.out).put hput (by omega),
            fun i => (frozen_put hput (by omega)).trans ((hb13.frozen (p := ⟨w.heap.size, i, none⟩) hlr).trans (HF2.out i)),
            by rw [HS1.out]; exact .mk hput.here (h9.ext hext), fun i => frozen_row hput.here i,
            by rw [HS1.out]; exact (HSS.out.add (HSP.out HB0.out)).mono (by omega), h1N, hgN, hgne, hput.below (below_trans HK6.out hb3) (by omega)⟩)
        clear hext hb13 hlr
        clear hput h9 Y7 hb3 X7 N7 z7 X6 hb6 hz6
        go_wp2
        go_roundw
        case rel => exact ⟨k + 1, HREL.out⟩
        case measure => simp [intOf]; omega
    · obtain rfl : k = ps.length := by omega
      rw [List.take_length] at hz hbn
      have H3 := hid (show pX ps = sumV ps ∧ pK ps = 0 by unfold pX pK; rw [hz]; exact ⟨rfl, rfl⟩)
      obtain ⟨A7, n7, c7, p7, A7b, n7b, c7b, p7b, A7c, n7c, c7c, X7, N7⟩ := hbn
      obtain ⟨f0, f1, f2, f3, f4, y0, y1, y2, y3, y4⟩ := bx5 X7
      have HNB := hid hnb
      obtain ⟨o0, o1, o2, o3, o4, k0, k1, k2, k3, k4, -⟩ := hnb
      have g0 := hf2 0
      have g1 := hf2 1
      have g2 := hf2 2
      have g3 := hf2 3
      have g4 := hf2 4
      have HN7 := hid N7
      have HBW := hid hb
      have hne : w2.heap.size ≠ w.heap.size := by omega
      have hne2 : w.heap.size ≠ w2.heap.size := by omega
      clear hat hf2 hfn hz hs hb X7 N7 HX HF
      go_wp2
      refine bodyPost_ret (v := .tuple #[.agg #[.slice A7 n7 c7, .bool p7, .slice A7b n7b c7b, .bool p7b, .slice A7c n7c c7c], .int .i64 0]) (by simp [results, Tryz.results12]; exact run_load5e HNB.out _ _ _ _ _ _) rfl ?_
      rw [H3.out.1, H3.out.2]
      exact RetNumE.box HBW.out (Nat.le_refl _) HNB.out HN7.out _ _ _ _ _
theorem parse_any (s : ByteArray) (w : World) (hs : s.size ≤ 1000000000) (hT : Tab w) : Calls Tryz.prog 12 #[.string s] w (RetNumE w (pVal s.data.toList) (pErr s.data.toList)) := by
  have hl := size_data s
  by_cases h1 : 4096 < s.size
  · have := parse_long s w h1 hs
    unfold pVal pErr
    rw [if_pos (by omega), if_pos (by omega)]
    exact this
  · unfold pVal pErr
    rw [if_neg (by omega), if_neg (by omega)]
    rcases h2 : pNum s.data.toList with _ | ps
    · exact parse_form s w (by omega) h2
    · have := parse_good s ps w (by omega) h2 hT
      exact this
end Go.Proofs.YtphlmmjlpbledaaGreatDoor
