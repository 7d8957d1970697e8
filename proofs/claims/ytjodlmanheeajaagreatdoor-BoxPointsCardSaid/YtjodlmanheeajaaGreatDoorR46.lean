import Derived.Test.YtjodlmanheeajaaGreatDoorR26
import Derived.Test.YtjodlmanheeajaaGreatDoorR02
set_option linter.unusedVariables false
set_option linter.unusedSimpArgs false
set_option maxRecDepth 100000
set_option maxHeartbeats 8000000
namespace Go.Proofs.YtjodlmanheeajaaGreatDoor
open Go Go.ChangeShapes Go.WideShapes Go.ChangeAt Go.WideMaps Go.WideElems Go.RowKit Go.Joins
theorem door_met2 (os:Os) (args:Array Value):laidMetH Tryz.prog [("math/bits.deBruijn32tab",Rows.laid_math_bits_deBruijn32tab),("math/bits.deBruijn64tab",Rows.laid_math_bits_deBruijn64tab)] ((World.doorLaid Tryz.prog 400 os).forCall (fun _ _=>0) ⟨#[],args,[]⟩).memory :=
 laidMetH_of_parts3 (fuel:=8) (laidMet_of_run' 8 kR kR) kR kR
theorem open_word {H:Type} {enc:TypeId × Value -> H} {W:World} {base fuel:Nat} {sp:Nat -> Bool} {hd:Bool} {c:Value} {y:DataW H × List MemPlace} (h:DataW.trod enc Tryz.prog W base sp hd fuel 22 [c] = some y):∃ n:Nat,c = .int .u64 (n:Int) /\ n < 18446744073709551616:=by
 obtain ⟨z,hn,-,hw⟩:=DataW.trod_int Tryz.underlying22 h
 simp at hn
 subst hn
 have hw':(decide (IntKind.u64.min <= z) && decide (z <= IntKind.u64.max)) = true:=hw
 simp only [Bool.and_eq_true] at hw'
 have e1:IntKind.u64.min = 0:=dE
 have e2:IntKind.u64.max = 18446744073709551616 - 1:=dE
 have h1:=of_decide_eq_true hw'.1
 have h2:=of_decide_eq_true hw'.2
 refine ⟨z.toNat,?_,oM⟩
 rw [Int.toNat_of_nonneg oM]
theorem ends_cells:Tryz.prog.cellsOf 24 = 2:=kR
theorem word_cells:Tryz.prog.cellsOf 22 = 1:=kR
theorem sides_cells:Tryz.prog.cellsOf 63 = 4:=kR
theorem ends_list {H:Type} {enc:TypeId × Value -> H} {W:World} {base fuel:Nat} {sp:Nat -> Bool} {hd:Bool} {c0 c1:Value} {y:DataW H × List MemPlace} (h:DataW.trod enc Tryz.prog W base sp hd fuel 24 [c0,c1] = some y) :
  ∃ a b:Nat,c0 = .int .u64 (a:Int) /\ c1 = .int .u64 (b:Int) /\ a < 18446744073709551616 /\ b < 18446744073709551616:=by
 obtain ⟨y0,y1,n,-,-,h0,h1⟩:=trod_struct2 Tryz.underlying24 h
 simp only [word_cells] at h0 h1
 obtain ⟨a,ea,ha⟩:=open_word (c:=c0) h0
 obtain ⟨b,eb,hb⟩:=open_word (c:=c1) h1
 exact ⟨a,b,ea,eb,ha,hb⟩
theorem open_sides {H:Type} {enc:TypeId × Value -> H} {W:World} {base:Nat} {v:Value} {d:DataW H} {p:List MemPlace} {b0:Nat} (hv:Value.okWide Tryz.prog W .any b0 63 v) (h:DataW.Trod enc Tryz.prog W base (fun _=>true) true 63 v d p) :
  ∃ a b c e:Nat,v = .agg #[.int .u64 (a:Int),.int .u64 (b:Int),.int .u64 (c:Int),.int .u64 (e:Int)] /\ a < 18446744073709551616 /\ b < 18446744073709551616 /\ c < 18446744073709551616 /\ e < 18446744073709551616:=by
 obtain ⟨cs,rfl,hsz⟩:=okWide_struct Tryz.underlying63 hv
 obtain ⟨c0,c1,c2,c3,rfl⟩:=array4 (hsz.trans sides_cells)
 obtain ⟨fuel,hf⟩:=h
 obtain ⟨y0,y1,n,-,-,h0,h1⟩:=trod_struct2 Tryz.underlying63 hf
 simp only [ends_cells] at h0 h1
 obtain ⟨a,b,rfl,rfl,ha,hb⟩:=ends_list (c0:=c0) (c1:=c1) h0
 obtain ⟨c,e,rfl,rfl,hc,he⟩:=ends_list (c0:=c2) (c1:=c3) h1
 exact ⟨a,b,c,e,rfl,ha,hb,hc,he⟩
theorem open_ends {H:Type} {enc:TypeId × Value -> H} {W:World} {base:Nat} {v:Value} {d:DataW H} {p:List MemPlace} {b0:Nat} (hv:Value.okWide Tryz.prog W .any b0 24 v) (h:DataW.Trod enc Tryz.prog W base (fun _=>true) true 24 v d p) :
  ∃ a b:Nat,v = .agg #[.int .u64 (a:Int),.int .u64 (b:Int)] /\ a < 18446744073709551616 /\ b < 18446744073709551616:=by
 obtain ⟨c0,c1,y0,y1,m,rfl,-,-,h0,h1⟩:=open_agg2 Tryz.underlying24 kR ends_cells hv h
 obtain ⟨a,rfl,ha⟩:=open_word h0
 obtain ⟨b,rfl,hb⟩:=open_word h1
 exact ⟨a,b,rfl,ha,hb⟩
end Go.Proofs.YtjodlmanheeajaaGreatDoor
