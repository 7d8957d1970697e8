/- Walks of text: divWord in one row. -/
import Derived.Test.YtlljeccfhmojnaaGreatDoorG03
import Derived.Test.YtlljeccfhmojnaaGreatDoorG06
set_option linter.unusedSimpArgs false
set_option linter.unusedVariables false
namespace Go.Proofs.YtlljeccfhmojnaaGreatDoor
open Go.RowKit
set_option maxRecDepth 100000

/-- Block g is n bytes that may be written. -/
def RowB (w : World) (g n : Nat) (f : Nat → Nat) : Prop :=
  ∃ cs : Array Value, w.heap[g]? = some (.cells cs 5 (0, 0)) ∧ cs.size = n ∧ ∀ j, j < n → cs[j]? = some (.int .u8 (f j : Int))

section
variable {w w' : World} {g n : Nat} {f : Nat → Nat}
theorem RowB.lt (h : RowB w g n f) : g < w.heap.size := by
  obtain ⟨cs, h, _⟩ := h
  rcases Nat.lt_or_ge g w.heap.size with hlt | hge
  · exact hlt
  · rw [Array.getElem?_eq_none hge] at h; cases h
theorem RowB.cell (h : RowB w g n f) {j : Nat} (hj : j < n) : w.cell? ⟨g, j, none⟩ = some (.int .u8 (f j : Int)) := by
  obtain ⟨cs, h, hs, hc⟩ := h
  rw [cell_of_row w g j cs _ (0, 0) h]
  exact hc j hj
theorem RowB.frozen (h : RowB w g n f) (j : Nat) : w.frozen? ⟨g, j, none⟩ = false := by
  obtain ⟨cs, h, _⟩ := h
  simp [World.frozen?, h]
theorem RowB.set_ (h : RowB w g n f) {i : Nat} (hi : i < n) (x : Nat) : RowB (w.setCell ⟨g, i, none⟩ (.int .u8 (x : Int))) g n (upd f i x) := by
  obtain ⟨cs, h, hs, hc⟩ := h
  refine ⟨cs.setIfInBounds i (.int .u8 (x : Int)), ?_, by simp [hs], fun j hj => ?_⟩
  · simp [World.setCell, Array.getElem?_modify, h]
  · rw [Array.getElem?_setIfInBounds]
    by_cases hij : i = j
    · subst hij
      rw [if_pos rfl, if_pos (by omega), upd_same]
    · rw [if_neg hij, upd_other f x (fun e => hij e.symm)]
      exact hc j hj
theorem RowB.congr {f' : Nat → Nat} (h : RowB w g n f) (he : ∀ j, j < n → f j = f' j) : RowB w g n f' := by
  obtain ⟨cs, h, hs, hc⟩ := h
  exact ⟨cs, h, hs, fun j hj => by rw [← he j hj]; exact hc j hj⟩
theorem RowB.keep (h : RowB w g n f) (hb : w'.heap[g]? = w.heap[g]?) : RowB w' g n f := by
  obtain ⟨cs, h, hs, hc⟩ := h
  exact ⟨cs, hb.trans h, hs, hc⟩
theorem RowB.below {B : Nat} (h : RowB w g n f) (hb : Below B w w') (hg : g < B) : RowB w' g n f := h.keep (hb.block g hg)
theorem RowB.grown {row : Option Nat} (h : RowB w g n f) (hb : w.grownBy w' row) (hg : some g ≠ row) : RowB w' g n f := h.keep (hb.block g h.lt hg)
theorem RowB.new (w : World) (z : Value) (hz : z.cells = #[.int .u8 0]) (n : Nat) : RowB (w.alloc (.cells (madeCells z.cells n) 5)) w.heap.size n (fun _ => 0) := by
  refine ⟨madeCells z.cells n, ?_, size_madeCells _ _, fun j hj => ?_⟩
  · show (w.heap.push _)[w.heap.size]? = _
    simp
  · rw [hz]
    simp [madeCells, hj]
    rw [Nat.mod_one]
    rfl
end

theorem info_u8z : (Tryz.prog.info? 5).map (fun i => (i.zero, i.size, i.bytes)) = some (some (.int .u8 0), 1, 1) := by kernel_rfl
def zbytes (n : Nat) : Obj := .cells (madeCells #[.int .u8 0] n) 5
theorem make_u8 (n : Nat) (hn : n ≤ 17592186044416) (w : World) : (Instr.makeSlice 181 (.int .i64 (n : Int)) (.int .i64 (n : Int))).run Tryz.prog w = .ok (.slice (some ⟨w.heap.size, 0, none⟩) n n) (w.alloc (zbytes n)) :=
  run_make_row' 181 5 (.int .u8 0) 1 Tryz.underlying181 info_u8z rfl .i64 .i64 n (by omega) (by omega) w
theorem make_digits (n : Nat) (hn : n ≤ 1099511627776) (w : World) : (Instr.makeSlice 181 (.int .i64 (10 * (n : Int) + 9)) (.int .i64 (10 * (n : Int) + 9))).run Tryz.prog w = .ok (.slice (some ⟨w.heap.size, 0, none⟩) (10 * n + 9) (10 * n + 9)) (w.alloc (zbytes (10 * n + 9))) := by
  have := make_u8 (10 * n + 9) (by omega) w
  rw [show (((10 * n + 9 : Nat) : Int)) = 10 * (n : Int) + 9 by omega] at this
  exact this
theorem RowB.zbytes (w : World) (n : Nat) : RowB (w.alloc (zbytes n)) w.heap.size n (fun _ => 0) := RowB.new w (.int .u8 0) rfl n
/-- divWord, the quotient in the row of x itself. -/
theorem divWord_same (g n m cq cx d : Nat) (f : Nat → Nat) (w : World)
    (hr : Row w g m f) (hnm : n ≤ m) (hfx : Wd f n) (hn : n ≤ 1099511627776) (hd0 : 0 < d) (hd : d < 4294967296) :
    Calls Tryz.prog 162 #[.slice (some ⟨g, 0, none⟩) n cq, .slice (some ⟨g, 0, none⟩) n cx, .int .u32 (d : Int)] w fun e w' => ∃ r f', e = .returned (.int .u32 ((r : Nat) : Int)) ∧ Row w' g m f' ∧ Wd f' n ∧
      vs f n = vs f' n * d + r ∧ r < d ∧ w.grownBy w' (some g) := by
  have HR := Lib.hid hr; clear hr
  go_enter Tryz.func162, Tryz.ntmps162
  go_wp2
  go_loopw [7, 8] (fun rv i wr => ∃ k rest : Nat, k ≤ n ∧ i = .int .i64 ((k : Int) - 1) ∧ rv = .int .u32 rest ∧ rest < d ∧ ∃ f', Row wr g m f' ∧ (∀ j, j < n → f' j < 4294967296) ∧ (∀ j, j < k → f' j = f j) ∧
      vs (fun j => f (k + j)) (n - k) = vs (fun j => f' (k + j)) (n - k) * d + rest ∧ w.grownBy wr (some g)) (fun _ i _ => (intOf i + 1).toNat)
  case atStart => exact ⟨n, 0, by omega, rfl, rfl, hd0, f, HR.out, hfx, fun _ _ => rfl, by rw [Nat.sub_self]; simp [vs_zero], grown_refl _ _⟩
  case round =>
    obtain ⟨k, rest, hk, rfl, rfl, hrd, f', hrow, hfw, hkeep, hv, hg⟩ := hrel
    have HV := Lib.hid hv; clear hv
    have HF := Lib.hid hfw; clear hfw
    have HG := Lib.hid hg; clear hg
    have HRO := Lib.hid hrow; clear hrow
    have HKE := Lib.hid hkeep; clear hkeep
    rcases Nat.eq_zero_or_pos k with h0 | h0
    · subst h0
      go_wp2
      go_ret
      have hv := HV.out
      simp only [Nat.zero_add, Nat.sub_zero] at hv
      exact ⟨rest, f', rfl, HRO.out, fun j hj => HF.out j hj, hv, hrd, HG.out⟩
    · obtain ⟨k2, rfl⟩ : ∃ k2, k = k2 + 1 := ⟨k - 1, by omega⟩
      have hz := HRO.out.cell (j := k2) (by omega)
      have hzf := HRO.out.frozen k2
      have hw1 := HF.out k2 (by omega)
      go_wp2_with (go_at_call 170; refine (div32_any _ _ _ _ hrd hw1 hd).mono ?_; rintro e w' ⟨s, r, rfl, hs, hr1, hs1, q, rfl⟩; have HS := Lib.hid hs; clear hs)
      go_roundw
      case rel => exact ⟨k2, r, by omega, by go_num, rfl, hr1, upd f' k2 s, HRO.out.set_ (by omega) s, fun j h2 => by
          unfold upd
          split
          · exact hs1
          · exact HF.out j h2, fun j hj => by rw [upd_other _ _ (by omega)]; exact HKE.out j (by omega), by
          have hv := HV.out
          have hs := HS.out
          rw [HKE.out k2 (by omega)] at hs
          rw [show n - (k2 + 1) = n - k2 - 1 by omega] at hv
          rw [show n - k2 = (n - k2 - 1) + 1 by omega]
          exact divw_step hv hs, grown_trans (grown_drewN HG.out q) (grown_set _ _ _ _)⟩
      case measure => simp [intOf]
end Go.Proofs.YtlljeccfhmojnaaGreatDoor
