import Derived.Test.YtjodlmanheeajaaGreatDoorR34
import Derived.Test.YtjodlmanheeajaaGreatDoorR02
set_option linter.unusedVariables false
set_option linter.unusedSimpArgs false
set_option maxRecDepth 100000
set_option maxHeartbeats 8000000
namespace Go.Proofs.YtjodlmanheeajaaGreatDoor
open Go.RowKit
def nanb (b:Nat):Bool:=FloatKind.f64.format.order b b != some Ordering.eq
def infp (b:Nat):Bool:=FloatKind.f64.format.order b 9218868437227405311 == some Ordering.gt
def infn (b:Nat):Bool:=FloatKind.f64.format.order (Op.negFloat .f64 b) 9218868437227405311 == some Ordering.gt
def gtb (a b:Nat):Bool:=FloatKind.f64.format.order a b == some Ordering.gt
def zeb (b:Nat):Bool:=FloatKind.f64.format.order b 0 == some Ordering.eq
def ez (b:Nat):Nat:=if zeb b then 0 else b
def mayB (a b:Nat):Bool:=!nanb a && !nanb b && !infp a && !infn b
def msK (a b:Nat):Int:=if mayB a b then (if gtb a b then 7 else 0) else 1
def msL (a b:Nat):Nat:=if mayB a b && !gtb a b then ez a else 0
def msH (a b:Nat):Nat:=if mayB a b && !gtb a b then ez b else 0
theorem fneg_run (b:Nat) (W:World):(Op.unary UnOp.neg (.float .f64 b)).run Tryz.prog W = .ok (.float .f64 (Op.negFloat .f64 b)) W:=by
 simp [Op.unary]
theorem mayEnd_any (a b:Nat) (w:World):Calls Tryz.prog 105 #[.float .f64 a,.float .f64 b] w fun e w'=>e = .returned (.bool (mayB a b)) /\ w = w':=by
 have hfb:=floatbits_run
 have hfn:=fneg_run
 unfold mayB
 cases h1:nanb a
 ·cases h2:nanb b
  ·cases h3:infp a
   ·cases h4:infn b
    ·unfold nanb at h1 h2; unfold infp at h3; unfold infn at h4
     go_enter Tryz.func105,Tryz.ntmps105
     go_wp2
     go_ret
     exact ⟨rfl,rfl⟩
    ·unfold nanb at h1 h2; unfold infp at h3; unfold infn at h4
     go_enter Tryz.func105,Tryz.ntmps105
     go_wp2
     go_ret
     exact ⟨rfl,rfl⟩
   ·unfold nanb at h1 h2; unfold infp at h3
    go_enter Tryz.func105,Tryz.ntmps105
    go_wp2
    go_ret
    exact ⟨rfl,rfl⟩
  ·unfold nanb at h1 h2
   go_enter Tryz.func105,Tryz.ntmps105
   go_wp2
   go_ret
   exact ⟨rfl,rfl⟩
 ·unfold nanb at h1
  go_enter Tryz.func105,Tryz.ntmps105
  go_wp2
  go_ret
  exact ⟨rfl,rfl⟩
theorem plain_any (b:Nat) (w:World):Calls Tryz.prog 112 #[.float .f64 b] w fun e w'=>e = .returned (.float .f64 (ez b)) /\ w = w':=by
 unfold ez
 cases h:zeb b
 ·rw [if_neg Bool.false_ne_true]
  unfold zeb at h
  go_enter Tryz.func112,Tryz.ntmps112
  go_wp2
  go_ret
  exact ⟨rfl,rfl⟩
 ·rw [if_pos rfl]
  unfold zeb at h
  go_enter Tryz.func112,Tryz.ntmps112
  go_wp2
  go_ret
  exact ⟨rfl,rfl⟩
theorem rend_any (b:Nat) (w:World):Calls Tryz.prog 111 #[.float .f64 b] w fun e w'=>e = .returned (.float .f64 (ez b)) /\ w = w':=by
 unfold ez
 cases h:zeb b
 ·rw [if_neg Bool.false_ne_true]
  unfold zeb at h
  go_enter Tryz.func111,Tryz.ntmps111
  go_wp2
  go_ret
  exact ⟨rfl,rfl⟩
 ·rw [if_pos rfl]
  unfold zeb at h
  go_enter Tryz.func111,Tryz.ntmps111
  go_wp2
  go_ret
  exact ⟨rfl,rfl⟩
theorem makeSpan_any (a b:Nat) (w:World):Calls Tryz.prog 58 #[.float .f64 a,.float .f64 b] w fun e w'=>e = .returned (.tuple #[.agg #[.float .f64 (msL a b),.float .f64 (msH a b)],.int .i64 (msK a b)]) /\ Below w.heap.size w w':=by
 have hfb:=floatbits_run
 have hfn:=fneg_run
 have hsf:=store_float
 have HM:=hid (fun W=>mayEnd_any a b W)
 have HPa:=hid (fun W=>plain_any a W)
 have HPb:=hid (fun W=>plain_any b W)
 unfold msL msH msK
 cases hm:mayB a b
 ·simp only [Bool.false_and,Bool.false_eq_true,if_false]
  go_enter Tryz.func58,Tryz.ntmps58
  go_wp2_with fail
  refine (HM.out _).mono ?_
  rw [hm]
  rintro e w9 ⟨rfl,rfl⟩
  go_wp2
  refine bodyPost_ret (v:=.tuple #[.agg #[.float .f64 0,.float .f64 0],.int .i64 1]) (by simp [results,Tryz.results58,go_sem]) rfl ?_
  exact ⟨rfl,below_alloc _ _⟩
 ·cases hg:gtb a b
  ·simp only [Bool.true_and,Bool.not_false,if_true,Bool.false_eq_true,if_false]
   have hg':=hg
   unfold gtb at hg'
   go_enter Tryz.func58,Tryz.ntmps58
   go_wp2_with fail
   refine (HM.out _).mono ?_
   rw [hm]
   rintro e w9 ⟨rfl,rfl⟩
   go_wp2_with fail
   refine (HPa.out _).mono ?_
   rintro e w9 ⟨rfl,rfl⟩
   go_wp2_with fail
   refine (HPb.out _).mono ?_
   rintro e w9 ⟨rfl,rfl⟩
   go_wp2
   refine bodyPost_ret (v:=.tuple #[.agg #[.float .f64 (ez a),.float .f64 (ez b)],.int .i64 0]) (by simp [results,Tryz.results58,go_sem]) rfl ?_
   exact ⟨rfl,below_alloc _ _⟩
  ·simp only [Bool.true_and,Bool.not_true,Bool.false_eq_true,if_false,if_true]
   have hg':=hg
   unfold gtb at hg'
   go_enter Tryz.func58,Tryz.ntmps58
   go_wp2_with fail
   refine (HM.out _).mono ?_
   rw [hm]
   rintro e w9 ⟨rfl,rfl⟩
   go_wp2
   refine bodyPost_ret (v:=.tuple #[.agg #[.float .f64 0,.float .f64 0],.int .i64 7]) (by simp [results,Tryz.results58,go_sem]) rfl ?_
   exact ⟨rfl,below_alloc _ _⟩
theorem rmakeSpan_any (a b:Nat) (w:World):Calls Tryz.prog 57 #[.float .f64 a,.float .f64 b] w fun e w'=>e = .returned (.tuple #[.agg #[.float .f64 (msL a b),.float .f64 (msH a b)],.int .i64 (msK a b)]) /\ Below w.heap.size w w':=by
 have hfb:=floatbits_run
 have hfn:=fneg_run
 have hsf:=store_float
 have HPa:=hid (fun W=>rend_any a W)
 have HPb:=hid (fun W=>rend_any b W)
 unfold msL msH msK mayB
 cases h1:nanb a
 ·cases h2:nanb b
  ·cases h3:infp a
   ·cases h4:infn b
    ·cases hg:gtb a b
     ·simp only [Bool.not_false,Bool.and_true,if_true,Bool.false_eq_true,if_false]
      unfold nanb at h1 h2; unfold infp at h3; unfold infn at h4; unfold gtb at hg
      go_enter Tryz.func57,Tryz.ntmps57
      cases hza:zeb a
      ·cases hzb:zeb b
       ·unfold ez; rw [hza,hzb]; unfold zeb at hza hzb
        go_wp2
        refine bodyPost_ret (v:=.tuple #[.agg #[.float .f64 a,.float .f64 b],.int .i64 0]) (by simp [results,Tryz.results57,go_sem]) rfl ?_
        exact ⟨rfl,below_alloc _ _⟩
       ·unfold ez; rw [hza,hzb]; unfold zeb at hza hzb
        go_wp2
        refine bodyPost_ret (v:=.tuple #[.agg #[.float .f64 a,.float .f64 0],.int .i64 0]) (by simp [results,Tryz.results57,go_sem]) rfl ?_
        exact ⟨rfl,below_alloc _ _⟩
      ·cases hzb:zeb b
       ·unfold ez; rw [hza,hzb]; unfold zeb at hza hzb
        go_wp2
        refine bodyPost_ret (v:=.tuple #[.agg #[.float .f64 0,.float .f64 b],.int .i64 0]) (by simp [results,Tryz.results57,go_sem]) rfl ?_
        exact ⟨rfl,below_alloc _ _⟩
       ·unfold ez; rw [hza,hzb]; unfold zeb at hza hzb
        go_wp2
        refine bodyPost_ret (v:=.tuple #[.agg #[.float .f64 0,.float .f64 0],.int .i64 0]) (by simp [results,Tryz.results57,go_sem]) rfl ?_
        exact ⟨rfl,below_alloc _ _⟩
     ·simp only [Bool.not_false,Bool.not_true,Bool.and_true,Bool.and_false,if_true,Bool.false_eq_true,if_false]
      unfold nanb at h1 h2; unfold infp at h3; unfold infn at h4; unfold gtb at hg
      go_enter Tryz.func57,Tryz.ntmps57
      go_wp2
      refine bodyPost_ret (v:=.tuple #[.agg #[.float .f64 0,.float .f64 0],.int .i64 7]) (by simp [results,Tryz.results57,go_sem]) rfl ?_
      exact ⟨rfl,below_alloc _ _⟩
    ·simp only [Bool.not_false,Bool.not_true,Bool.and_true,Bool.and_false,Bool.false_and,if_true,Bool.false_eq_true,if_false]
     unfold nanb at h1 h2; unfold infp at h3; unfold infn at h4
     go_enter Tryz.func57,Tryz.ntmps57
     go_wp2
     refine bodyPost_ret (v:=.tuple #[.agg #[.float .f64 0,.float .f64 0],.int .i64 1]) (by simp [results,Tryz.results57,go_sem]) rfl ?_
     exact ⟨rfl,below_alloc _ _⟩
   ·simp only [Bool.not_false,Bool.not_true,Bool.and_true,Bool.and_false,Bool.false_and,if_true,Bool.false_eq_true,if_false]
    unfold nanb at h1 h2; unfold infp at h3
    go_enter Tryz.func57,Tryz.ntmps57
    go_wp2
    refine bodyPost_ret (v:=.tuple #[.agg #[.float .f64 0,.float .f64 0],.int .i64 1]) (by simp [results,Tryz.results57,go_sem]) rfl ?_
    exact ⟨rfl,below_alloc _ _⟩
  ·simp only [Bool.not_false,Bool.not_true,Bool.and_true,Bool.and_false,Bool.false_and,if_true,Bool.false_eq_true,if_false]
   unfold nanb at h1 h2
   go_enter Tryz.func57,Tryz.ntmps57
   go_wp2
   refine bodyPost_ret (v:=.tuple #[.agg #[.float .f64 0,.float .f64 0],.int .i64 1]) (by simp [results,Tryz.results57,go_sem]) rfl ?_
   exact ⟨rfl,below_alloc _ _⟩
 ·simp only [Bool.not_false,Bool.not_true,Bool.and_true,Bool.and_false,Bool.false_and,if_true,Bool.false_eq_true,if_false]
  unfold nanb at h1
  go_enter Tryz.func57,Tryz.ntmps57
  go_wp2
  refine bodyPost_ret (v:=.tuple #[.agg #[.float .f64 0,.float .f64 0],.int .i64 1]) (by simp [results,Tryz.results57,go_sem]) rfl ?_
  exact ⟨rfl,below_alloc _ _⟩
end Go.Proofs.YtjodlmanheeajaaGreatDoor
