import Derived.Lib.TrailingZeros
import Derived.Test.YtjodlmanheeajaaGreatDoorR04
import Derived.Test.YtjodlmanheeajaaGreatDoorR19
import Derived.Test.YtjodlmanheeajaaGreatDoorR02
set_option linter.unusedVariables false
set_option linter.unusedSimpArgs false
set_option maxRecDepth 100000
set_option maxHeartbeats 8000000
namespace Go.Proofs.YtjodlmanheeajaaGreatDoor
open Go.RowKit
def Tab64 (w:World):Prop:=1 < w.heap.size /\ ∀ k,k < 64 -> w.cell? ⟨1,k,none⟩ = some (.int .u8 ((Lib.deBruijn64tab.getD k 0:Nat):Int))
theorem Tab64.below {w w':World} (h:Tab64 w) (hb:Below w.heap.size w w'):Tab64 w' :=
 ⟨lL h.1 hb.size,fun k hk=>(hb.cell (p:=⟨1,k,none⟩) h.1).trans (h.2 k hk)⟩
theorem u64_wrap (n:Int):IntKind.u64.wrap n = n % 18446744073709551616:=rfl
theorem tz64_key (x a:Nat) (hx:x < 18446744073709551616) (hx0:x ≠ 0) (hlow:x &&& (18446744073709551616 - x) = a) :
  IntKind.u64.wrap (bits BinOp.and IntKind.u64 (x:Int) (IntKind.u64.wrap (-(x:Int))) * 285870213051353865) / 288230376151711744 = ((a * 285870213051353865 % 18446744073709551616 / 288230376151711744:Nat):Int):=by
 have e1:IntKind.u64.wrap (-(x:Int)) = ((18446744073709551616 - x:Nat):Int):=by rw [u64_wrap]; omega
 rw [e1,u64_and_nat x _ hx oM,hlow,u64_wrap]
 omega
theorem tz64_core (x k idx:Nat) (w:World) (h0:((x:Int) == 0) = false)
  (key:IntKind.u64.wrap (bits BinOp.and IntKind.u64 (x:Int) (IntKind.u64.wrap (-(x:Int))) * 285870213051353865) / 288230376151711744 = (idx:Int))
  (hi:idx < 64) (hk:k < 64) (hcell:w.cell? ⟨1,idx,none⟩ = some (.int .u8 (k:Int))) :
  Calls Tryz.prog 145 #[.int .u64 (x:Int)] w fun e w'=>e = .returned (.int .i64 (k:Int)) /\ w = w':=by
 go_enter Tryz.func145,Tryz.ntmps145
 go_wp2_with (simp only [key])
 go_ret
 exact ⟨rfl,rfl⟩
theorem tz64_any (x:Nat) (w:World) (hx0:x ≠ 0) (hx:x < 18446744073709551616) (hT:Tab64 w) :
  Calls Tryz.prog 145 #[.int .u64 (x:Int)] w fun e w'=>e = .returned (.int .i64 ((Lib.ctz 64 x:Nat):Int)) /\ w = w':=by
 obtain ⟨hlow,hk⟩:=Lib.lowest_bit 64 x hx0 hx
 obtain ⟨hi,htab⟩:=Lib.deBruijn64_at _ hk
 have hcell:=hT.2 _ hi
 rw [htab] at hcell
 exact tz64_core x _ _ w sO (tz64_key x _ hx hx0 hlow) hi hk hcell
theorem floatbits_run (w:World) (n:Nat):(callFunc 127 #[.float .f64 n]).run Tryz.prog w = .ok (.value (.int .u64 (n:Int))) w:=by
 rw [run_callFunc_extern (f:=127) (fn:=Tryz.f127) (e:=Extern.MathFloatBits.float64bits) kR kR kR kR kR]
 rfl
def fx (b:Nat):Nat:=b / 4503599627370496 % 2048
def fm (b:Nat):Nat:=b % 4503599627370496
def fmag (b:Nat):Nat:=if fx b = 0 then fm b else fm b + 4503599627370496
def fup (b:Nat):Nat:=fx b - 1
def fneg (b:Nat):Bool:=decide (9223372036854775808 <= b)
def fI (b:Nat):Int:=if fneg b then -((fmag b * 2 ^ fup b:Nat):Int) else ((fmag b * 2 ^ fup b:Nat):Int)
theorem fx_lt (b:Nat):fx b < 2048:=Nat.mod_lt _ oM
theorem fm_lt (b:Nat):fm b < 4503599627370496:=Nat.mod_lt _ oM
theorem fmag_lt (b:Nat):fmag b < 9007199254740992:=by have:=fm_lt b; unfold fmag; split <;> omega
theorem read_fin {b:Nat} (hb:b < 18446744073709551616) (h:fx b ≠ 2047):Ieee.double.read b = .number (fneg b) (fmag b) ((fup b:Nat) - 1074:Int):=by
 have e1:Ieee.double.signWeight = 9223372036854775808:=dE
 have e2:Ieee.double.binade = 4503599627370496:=dE
 have e3:Ieee.double.infRung = 9218868437227405312:=dK
 have e4:Ieee.double.leastPlace = -1074:=dK
 have hn:(b / 9223372036854775808 % 2 == 1) = fneg b:=by
  unfold fneg
  rw [Bool.eq_iff_iff]
  simp
  omega
 unfold Ieee.Format.read
 simp only [e1,e2,e3,e4,hn]
 unfold fx at h
 by_cases h0:fx b = 0
 ·have h1:=h0
  unfold fx at h1
  have h2:b % 9223372036854775808 = fm b:=by unfold fm; omega
  rw [h2,if_pos (fm_lt b)]
  unfold fmag fup
  rw [if_pos h0,h0]
  rfl
 ·have h1:=h0
  unfold fx at h1
  rw [if_neg oM,if_pos oM]
  unfold fmag fup fm
  rw [if_neg h0]
  unfold fx
  congr 1
  ·omega
  ·omega
theorem read_zero:Ieee.double.read 0 = .number false 0 (-1074):=dK
theorem order_zero {b:Nat} (hb:b < 18446744073709551616) (h:fx b ≠ 2047) (h0:fmag b ≠ 0):Ieee.double.order b 0 = some (if fneg b then .lt else .gt):=by
 unfold Ieee.Format.order
 rw [read_fin hb h,read_zero]
 unfold Ieee.Datum.order
 simp only
 have e0:Ieee.signed false 0 (-1074 - min ((fup b:Nat) - 1074:Int) (-1074)).toNat = 0:=by simp [Ieee.signed]
 have ep:min ((fup b:Nat) - 1074:Int) (-1074) = -1074:=oM
 rw [ep] at e0 ⊢
 rw [e0]
 have e5:((fup b:Nat) - 1074 - -1074:Int).toNat = fup b:=oM
 rw [e5]
 have hp:0 < fmag b <<< fup b:=by rw [Nat.shiftLeft_eq]; exact Nat.mul_pos oM (Nat.pow_pos oM)
 unfold Ieee.signed
 generalize fmag b <<< fup b = m at hp
 congr 1
 cases fneg b
 ·simp only [Bool.false_eq_true,if_false]
  exact Int.compare_eq_gt.2 oM
 ·simp only [if_true]
  exact Int.compare_eq_lt.2 oM
end Go.Proofs.YtjodlmanheeajaaGreatDoor
