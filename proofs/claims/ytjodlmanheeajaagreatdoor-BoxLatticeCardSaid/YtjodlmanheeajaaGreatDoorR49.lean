/-
 What is proved: for all bits of the ends of 3 boxes,the law BoxLattice returns true (Hull and Meet of boxes are commutative and associative,and undo each other),and its arguments read afterwards as before.
 Conditions: those of the given card alone: the tables math/bits.deBruijn32tab and math/bits.deBruijn64tab lie as the program's text lays them (the card ties them).
-/
import Derived.Test.YtjodlmanheeajaaGreatDoorR46
import Derived.Test.YtjodlmanheeajaaGreatDoorR48
import Derived.Test.YtjodlmanheeajaaGreatDoorR02
set_option linter.unusedVariables false
set_option linter.unusedSimpArgs false
set_option maxRecDepth 100000
set_option maxHeartbeats 8000000
namespace Go.Proofs.YtjodlmanheeajaaGreatDoor
open Go Go.ChangeShapes Go.WideShapes Go.ChangeAt Go.WideMaps Go.WideElems Go.RowKit Go.Joins
theorem boxLattice_lifted (os:Os) (started:os.Started) (H:Type) (enc:TypeId × Value -> H) :
  ReturnsInHanded {} Tryz.checked os 9 .any (fun w args=>(Rows.boxLatticeSpec.pre enc Tryz.prog Tryz.f9 [] false w args /\ laidMetH Tryz.prog [("math/bits.deBruijn32tab",Rows.laid_math_bits_deBruijn32tab),("math/bits.deBruijn64tab",Rows.laid_math_bits_deBruijn64tab)] w) /\ sizedMet enc Tryz.prog Tryz.f9 (OpenSpec.ofChange Rows.boxLatticeSpec) false w args)
   (Rows.boxLatticeSpec.post enc Tryz.prog Tryz.f9 false true false false):=by
 refine returnsInHanded_of_change_and (C:=Tryz.checked) (X:=fun w _=>laidMetH Tryz.prog [("math/bits.deBruijn32tab",Rows.laid_math_bits_deBruijn32tab),("math/bits.deBruijn64tab",Rows.laid_math_bits_deBruijn64tab)] w) (fun _ _ _ hh h=>h.of_heap hh) own_knob started kR Tryz.func9
  (ChangeSpec.witness_shaped (enc:=enc) (C:=Tryz.checked) (os:=os) (X:=fun w _=>laidMetH Tryz.prog [("math/bits.deBruijn32tab",Rows.laid_math_bits_deBruijn32tab),("math/bits.deBruijn64tab",Rows.laid_math_bits_deBruijn64tab)] w) false (World.doorLaid Tryz.prog 400 os) #[.agg #[.int .u64 0,.int .u64 0,.int .u64 0,.int .u64 0],.agg #[.int .u64 0,.int .u64 0,.int .u64 0,.int .u64 0],.agg #[.int .u64 0,.int .u64 0,.int .u64 0,.int .u64 0]] 8 rfl (World.shaped_of_RefB kR kR) kR kR kR (door_met2 os _)) ?_
 intro W base args ds gs before hval0 hW _ _ hL _
 have hval:∀ (j:Nat) t v,Tryz.f9.params[j]? = some t -> args[j]? = some v -> Value.okWide Tryz.prog W .any base t v:=hval0
 have hWW:=hW
 obtain ⟨p,q,hA0,hV,rfl,hfz,hnd⟩:=hW
 have hA:DataW.TrodAll enc Tryz.prog W 0 (fun _=>true) true Tryz.f9.params.toList args.toList ds p:=hA0
 rw [Tryz.params9] at hA hval
 obtain ⟨v0,v1,v2,d0,d1,d2,q0,q1,q2,rfl,rfl,rfl,h0,h1,h2⟩:=trodAll_three hA
 obtain ⟨a00,a01,a02,a03,rfl,g00,g01,g02,g03⟩:=open_sides (hval 0 _ _ rfl rfl) h0
 obtain ⟨a10,a11,a12,a13,rfl,g10,g11,g12,g13⟩:=open_sides (hval 1 _ _ rfl rfl) h1
 obtain ⟨a20,a21,a22,a23,rfl,g20,g21,g22,g23⟩:=open_sides (hval 2 _ _ rfl rfl) h2
 have hT:=tab_of_tabs hL
 have hT6:=tab64_of_tabs hL
 obtain ⟨rfl,rfl⟩:=trodVars_none hV
 refine (boxLattice_walk W a00 a01 a02 a03 a10 a11 a12 a13 a20 a21 a22 a23 g00 g01 g02 g03 g10 g11 g12 g13 g20 g21 g22 g23 hT hT6).mono fun e W' ⟨he,hb⟩=>?_
 subst he
 exact ⟨_,rfl,law_post rfl rfl kR ⟨rfl,rfl,rfl⟩ hWW hb⟩
theorem boxLattice_said:Rows.BoxLatticeSaid :=
 OpenClaim.holds_of_wide 9 Tryz.f9 rfl rfl rfl rfl rfl rfl rfl ⟨rfl,rfl,rfl,rfl,rfl⟩ rfl rfl rfl rfl rfl kR Tryz.func9 kR
  (of_decide_eq_true kR) (by unfold Func.isWrapper; first | (rw [if_pos dK]; kernel_rfl) | (rw [if_neg dK]; exact ⟨rfl,rfl⟩))
  (fun os started H enc _=>boxLattice_lifted os started H enc)
theorem boxLattice_holds:Rows.BoxLatticeCardSaid :=
 Claim7.holds_tied_plain_at .later [] [.data,.data] true Rows.boxLatticeCard.stood.harness false
  boxLattice_said (fun _ h=>by cases h) kR (fun _ h=>by cases h) boxLattice_row_tie rfl ⟨rfl,rfl⟩ kR rfl
  (fun f fn hf hfn=>by
   obtain rfl:f = 9:=Option.some.inj ((show Tryz.prog.funcNamed "waveport/waveportlaw02.BoxLattice" = some 9 by kernel_rfl).symm.trans hf) |>.symm
   obtain rfl:fn = Tryz.f9:=(Option.some.inj (Tryz.func9.symm.trans hfn)).symm
   exact ⟨kR,fun j t ht=>by
    rw [Tryz.params9] at ht
    have hm:t ∈ [63,63,63]:=by simpa using Array.mem_of_getElem? ht
    have hall:([63,63,63].all fun u=>!Tryz.prog.wantsStandIn u) = true:=kR
    exact (show Tryz.prog.wantsStandIn t = false by simpa using List.all_eq_true.1 hall t hm)⟩)
  kR
end Go.Proofs.YtjodlmanheeajaaGreatDoor
