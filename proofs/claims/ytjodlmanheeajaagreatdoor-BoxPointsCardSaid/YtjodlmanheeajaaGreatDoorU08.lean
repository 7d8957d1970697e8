/-
 What is proved: for all bits of the ends of a box and any ratio,the law BoxPoints returns true (Of has its number,and no other one exactly if both parts are floats; a box in which it lies has the number,and one that has the number meets it),and its arguments read afterwards as before.
 Conditions: those of the given card alone: the tables math/bits.deBruijn32tab and math/bits.deBruijn64tab lie as the program's text lays them (the card ties them).
-/
import Derived.Test.YtjodlmanheeajaaGreatDoorR46
import Derived.Test.YtjodlmanheeajaaGreatDoorU07
import Derived.Test.YtjodlmanheeajaaGreatDoorU01
import Derived.Test.YtjodlmanheeajaaGreatDoorU02
import Derived.Test.YtjodlmanheeajaaGreatDoorU04
import Derived.Test.YtjodlmanheeajaaGreatDoorR02
set_option linter.unusedVariables false
set_option linter.unusedSimpArgs false
set_option maxRecDepth 100000
set_option maxHeartbeats 8000000
namespace Go.Proofs.YtjodlmanheeajaaGreatDoor
open Go Go.ChangeShapes Go.WideShapes Go.ChangeAt Go.WideMaps Go.WideElems Go.RowKit Go.Joins
theorem ratio_cells:Tryz.prog.cellsOf 40 = 3:=kR
theorem open_ratio {H:Type} {enc:TypeId × Value -> H} {W:World} {base:Nat} {v:Value} {d:DataW H} {p:List MemPlace} {b0:Nat} (hv:Value.okWide Tryz.prog W .any b0 40 v) (h:DataW.Trod enc Tryz.prog W base (fun _=>true) true 40 v d p) :
  ∃ r i q:Int,v = .agg #[.int .i64 r,.int .i64 i,.int .i64 q] /\ (-9223372036854775808 <= r /\ r < 9223372036854775808) /\ (-9223372036854775808 <= i /\ i < 9223372036854775808) /\ (-9223372036854775808 <= q /\ q < 9223372036854775808):=by
 obtain ⟨c0,c1,c2,y0,y1,y2,m,rfl,-,-,h0,h1,h2⟩:=open_agg3 Tryz.underlying40 kR ratio_cells hv h
 obtain ⟨n0,e0,-,w0⟩:=DataW.trod_int Tryz.underlying2 h0
 obtain ⟨n1,e1,-,w1⟩:=DataW.trod_int Tryz.underlying2 h1
 obtain ⟨n2,e2,-,w2⟩:=DataW.trod_int Tryz.underlying2 h2
 simp at e0 e1 e2
 subst e0 e1 e2
 have bd:∀ n:Int,(Lit.int .i64 n).wf = true -> -9223372036854775808 <= n /\ n < 9223372036854775808:=fun n hw=>by
  have hw':(decide (IntKind.i64.min <= n) && decide (n <= IntKind.i64.max)) = true:=hw
  simp only [Bool.and_eq_true] at hw'
  have e1:IntKind.i64.min = -9223372036854775808:=dE
  have e2:IntKind.i64.max = 9223372036854775807:=dE
  have h1:=of_decide_eq_true hw'.1
  have h2:=of_decide_eq_true hw'.2
  omega
 exact ⟨n0,n1,n2,rfl,bd _ w0,bd _ w1,bd _ w2⟩
theorem boxPoints_lifted (os:Os) (started:os.Started) (H:Type) (enc:TypeId × Value -> H) :
  ReturnsInHanded {} Tryz.checked os 8 .any (fun w args=>(Rows.boxPointsSpec.pre enc Tryz.prog Tryz.f8 [] false w args /\ laidMetH Tryz.prog [("math/bits.deBruijn32tab",Rows.laid_math_bits_deBruijn32tab),("math/bits.deBruijn64tab",Rows.laid_math_bits_deBruijn64tab)] w) /\ sizedMet enc Tryz.prog Tryz.f8 (OpenSpec.ofChange Rows.boxPointsSpec) false w args)
   (Rows.boxPointsSpec.post enc Tryz.prog Tryz.f8 false true false false):=by
 refine returnsInHanded_of_change_and (C:=Tryz.checked) (X:=fun w _=>laidMetH Tryz.prog [("math/bits.deBruijn32tab",Rows.laid_math_bits_deBruijn32tab),("math/bits.deBruijn64tab",Rows.laid_math_bits_deBruijn64tab)] w) (fun _ _ _ hh h=>h.of_heap hh) own_knob started kR Tryz.func8
  (ChangeSpec.witness_shaped (enc:=enc) (C:=Tryz.checked) (os:=os) (X:=fun w _=>laidMetH Tryz.prog [("math/bits.deBruijn32tab",Rows.laid_math_bits_deBruijn32tab),("math/bits.deBruijn64tab",Rows.laid_math_bits_deBruijn64tab)] w) false (World.doorLaid Tryz.prog 400 os) #[.agg #[.int .u64 0,.int .u64 0,.int .u64 0,.int .u64 0],.agg #[.int .i64 0,.int .i64 0,.int .i64 1]] 8 rfl (World.shaped_of_RefB kR kR) kR kR kR (door_met2 os _)) ?_
 intro W base args ds gs before hval0 hW _ _ hL _
 have hval:∀ (j:Nat) t v,Tryz.f8.params[j]? = some t -> args[j]? = some v -> Value.okWide Tryz.prog W .any base t v:=hval0
 have hWW:=hW
 obtain ⟨p,q,hA0,hV,rfl,hfz,hnd⟩:=hW
 have hA:DataW.TrodAll enc Tryz.prog W 0 (fun _=>true) true Tryz.f8.params.toList args.toList ds p:=hA0
 rw [Tryz.params8] at hA hval
 obtain ⟨v0,v1,d0,d1,q0,q1,rfl,rfl,rfl,h0,h1⟩:=trodAll_two hA
 obtain ⟨a00,a01,a02,a03,rfl,g00,g01,g02,g03⟩:=open_sides (hval 0 _ _ rfl rfl) h0
 obtain ⟨a10,a11,a12,rfl,g10,g11,g12⟩:=open_ratio (hval 1 _ _ rfl rfl) h1
 have hT:=tab_of_tabs hL
 have hT6:=tab64_of_tabs hL
 obtain ⟨rfl,rfl⟩:=trodVars_none hV
 refine (boxPoints_walk W a00 a01 a02 a03 a10 a11 a12 g00 g01 g02 g03 g10 g11 g12 hT hT6).mono fun e W' ⟨he,hb⟩=>?_
 subst he
 exact ⟨_,rfl,law_post rfl rfl kR ⟨rfl,rfl,rfl⟩ hWW hb⟩
theorem boxPoints_said:Rows.BoxPointsSaid :=
 OpenClaim.holds_of_wide 8 Tryz.f8 rfl rfl rfl rfl rfl rfl rfl ⟨rfl,rfl,rfl,rfl,rfl⟩ rfl rfl rfl rfl rfl kR Tryz.func8 kR
  (of_decide_eq_true kR) (by unfold Func.isWrapper; first | (rw [if_pos dK]; kernel_rfl) | (rw [if_neg dK]; exact ⟨rfl,rfl⟩))
  (fun os started H enc _=>boxPoints_lifted os started H enc)
theorem boxPoints_holds:Rows.BoxPointsCardSaid :=
 Claim7.holds_tied_plain_at .later [] [.data,.data] true Rows.boxPointsCard.stood.harness false
  boxPoints_said (fun _ h=>by cases h) kR (fun _ h=>by cases h) boxPoints_row_tie rfl ⟨rfl,rfl⟩ kR rfl
  (fun f fn hf hfn=>by
   obtain rfl:f = 8:=Option.some.inj ((show Tryz.prog.funcNamed "waveport/waveportlaw02.BoxPoints" = some 8 by kernel_rfl).symm.trans hf) |>.symm
   obtain rfl:fn = Tryz.f8:=(Option.some.inj (Tryz.func8.symm.trans hfn)).symm
   exact ⟨kR,fun j t ht=>by
    rw [Tryz.params8] at ht
    have hm:t ∈ [63,40]:=by simpa using Array.mem_of_getElem? ht
    have hall:([63,40].all fun u=>!Tryz.prog.wantsStandIn u) = true:=kR
    exact (show Tryz.prog.wantsStandIn t = false by simpa using List.all_eq_true.1 hall t hm)⟩)
  kR
end Go.Proofs.YtjodlmanheeajaaGreatDoor
