import Derived.IntWalk
import Derived.Laws.BytesArg
import Derived.Test.YtffegeaflohfhaaGreatDoorS01
import Derived.Test.YtffegeaflohfhaaGreatDoorS02
import Derived.Test.YtffegeaflohfhaaGreatDoorS04
import Derived.Test.YtffegeaflohfhaaGreatDoorS05
import Derived.Test.YtffegeaflohfhaaGreatDoorS16
set_option linter.unusedVariables false
set_option linter.unusedSimpArgs false
set_option maxRecDepth 100000
set_option maxHeartbeats 8000000
namespace Go.Proofs.YtffegeaflohfhaaGreatDoor
open Go.RowKit
def RowB (w:World) (g n:Nat) (f:Nat -> Nat):Prop :=
 ∃ cs:Array Value,w.heap[g]? = some (.cells cs 5 (0,0)) /\ cs.size = n /\ ∀ j,j < n -> cs[j]? = some (.int .u8 (f j:Int))
section
variable {w w':World} {g n:Nat} {f:Nat -> Nat}
theorem RowB.lt (h:RowB w g n f):g < w.heap.size:=by
 obtain ⟨cs,h,_⟩:=h
 rcases Nat.lt_or_ge g w.heap.size with hlt | hge
 ·exact hlt
 ·rw [Array.getElem?_eq_none hge] at h; cases h
theorem RowB.cell (h:RowB w g n f) {j:Nat} (hj:j < n):w.cell? ⟨g,j,none⟩ = some (.int .u8 (f j:Int)):=by
 obtain ⟨cs,h,hs,hc⟩:=h
 rw [cell_of_row w g j cs _ (0,0) h]
 exact hc j hj
theorem RowB.frozen (h:RowB w g n f) (j:Nat):w.frozen? ⟨g,j,none⟩ = false:=by
 obtain ⟨cs,h,_⟩:=h
 simp [World.frozen?,h]
theorem RowB.set_ (h:RowB w g n f) {i:Nat} (hi:i < n) (x:Nat):RowB (w.setCell ⟨g,i,none⟩ (.int .u8 (x:Int))) g n (upd f i x):=by
 obtain ⟨cs,h,hs,hc⟩:=h
 refine ⟨cs.setIfInBounds i (.int .u8 (x:Int)),?_,by simp [hs],fun j hj=>?_⟩
 ·simp [World.setCell,Array.getElem?_modify,h]
 ·rw [Array.getElem?_setIfInBounds]
  by_cases hij:i = j
  ·subst hij
   rw [if_pos rfl,if_pos oM,upd_same]
  ·rw [if_neg hij,upd_other f x (fun e=>hij e.symm)]
   exact hc j hj
theorem RowB.keep (h:RowB w g n f) (hb:w'.heap[g]? = w.heap[g]?):RowB w' g n f:=by
 obtain ⟨cs,h,hs,hc⟩:=h
 exact ⟨cs,hb.trans h,hs,hc⟩
theorem RowB.grown {row:Option Nat} (h:RowB w g n f) (hb:w.grownBy w' row) (hg:some g ≠ row):RowB w' g n f:=h.keep (hb.block g h.lt hg)
theorem RowB.new (w:World) (z:Value) (hz:z.cells = #[.int .u8 0]) (n:Nat):RowB (w.alloc (.cells (madeCells z.cells n) 5)) w.heap.size n (fun _=>0):=by
 refine ⟨madeCells z.cells n,?_,size_madeCells _ _,fun j hj=>?_⟩
 ·show (w.heap.push _)[w.heap.size]? = _
  simp
 ·rw [hz]
  simp [madeCells,hj]
  rw [Nat.mod_one]
  rfl
end
theorem info_u8z:(Tryz.prog.info? 5).map (fun i=>(i.zero,i.size,i.bytes)) = some (some (.int .u8 0),1,1):=kR
def zbytes (n:Nat):Obj:=.cells (madeCells #[.int .u8 0] n) 5
theorem make_u8 (n:Nat) (hn:n <= 17592186044416) (w:World):(Instr.makeSlice 179 (.int .i64 (n:Int)) (.int .i64 (n:Int))).run Tryz.prog w = .ok (.slice (some ⟨w.heap.size,0,none⟩) n n) (w.alloc (zbytes n)) :=
 run_make_row' 179 5 (.int .u8 0) 1 Tryz.underlying179 info_u8z rfl .i64 .i64 n oM oM w
theorem make_digits (n:Nat) (hn:n <= 1099511627776) (w:World):(Instr.makeSlice 179 (.int .i64 (10 * (n:Int) + 9)) (.int .i64 (10 * (n:Int) + 9))).run Tryz.prog w = .ok (.slice (some ⟨w.heap.size,0,none⟩) (10 * n + 9) (10 * n + 9)) (w.alloc (zbytes (10 * n + 9))):=by
 have:=make_u8 (10 * n + 9) oM w
 rw [show (((10 * n + 9:Nat):Int)) = 10 * (n:Int) + 9 by omega] at this
 exact this
theorem RowB.zbytes (w:World) (n:Nat):RowB (w.alloc (zbytes n)) w.heap.size n (fun _=>0):=RowB.new w (.int .u8 0) rfl n
theorem divWord_same (g n m cq cx d:Nat) (f:Nat -> Nat) (w:World)
  (hr:Row w g m f) (hnm:n <= m) (hfx:Wd f n) (hn:n <= 1099511627776) (hd0:0 < d) (hd:d < 4294967296) :
  Calls Tryz.prog 159 #[.slice (some ⟨g,0,none⟩) n cq,.slice (some ⟨g,0,none⟩) n cx,.int .u32 (d:Int)] w fun e w'=>∃ r f',e = .returned (.int .u32 ((r:Nat):Int)) /\ Row w' g m f' /\ Wd f' n /\
   vs f n = vs f' n * d + r /\ r < d /\ w.grownBy w' (some g):=by
 have HR:=hid hr; clear hr
 go_enter Tryz.func159,Tryz.ntmps159
 go_wp2
 go_loopw [7,8] (fun rv i wr=>∃ k rest:Nat,k <= n /\ i = .int .i64 ((k:Int) - 1) /\ rv = .int .u32 rest /\ rest < d /\ ∃ f',Row wr g m f' /\ (∀ j,j < n -> f' j < 4294967296) /\ (∀ j,j < k -> f' j = f j) /\
   vs (fun j=>f (k + j)) (n - k) = vs (fun j=>f' (k + j)) (n - k) * d + rest /\ w.grownBy wr (some g)) (fun _ i _=>(intOf i + 1).toNat)
 case atStart=>exact ⟨n,0,oM,rfl,rfl,hd0,f,HR.out,hfx,fun _ _=>rfl,by rw [Nat.sub_self]; simp [vs_zero],grown_refl _ _⟩
 case round =>
  obtain ⟨k,rest,hk,rfl,rfl,hrd,f',hrow,hfw,hkeep,hv,hg⟩:=hrel
  have HV:=hid hv; clear hv
  have HF:=hid hfw; clear hfw
  have HG:=hid hg; clear hg
  have HRO:=hid hrow; clear hrow
  have HKE:=hid hkeep; clear hkeep
  rcases Nat.eq_zero_or_pos k with h0 | h0
  ·subst h0
   go_wp2
   go_ret
   have hv:=HV.out
   simp only [Nat.zero_add,Nat.sub_zero] at hv
   exact ⟨rest,f',rfl,HRO.out,fun j hj=>HF.out j hj,hv,hrd,HG.out⟩
  ·obtain ⟨k2,rfl⟩:∃ k2,k = k2 + 1:=⟨k - 1,oM⟩
   have hz:=HRO.out.cell (j:=k2) oM
   have hzf:=HRO.out.frozen k2
   have hw1:=HF.out k2 oM
   go_wp2_with (go_at_call 173; refine (div32_any _ _ _ _ hrd hw1 hd).mono ?_; rintro e w' ⟨s,r,rfl,hs,hr1,hs1,q,rfl⟩; have HS:=hid hs; clear hs)
   go_roundw
   case rel=>exact ⟨k2,r,oM,by go_num,rfl,hr1,upd f' k2 s,HRO.out.set_ oM s,fun j h2=>by
     unfold upd
     split
     ·exact hs1
     ·exact HF.out j h2,fun j hj=>by rw [upd_other _ _ oM]; exact HKE.out j oM,by
     have hv:=HV.out
     have hs:=HS.out
     rw [HKE.out k2 oM] at hs
     rw [show n - (k2 + 1) = n - k2 - 1 by omega] at hv
     rw [show n - k2 = (n - k2 - 1) + 1 by omega]
     exact divw_step hv hs,grown_trans (grown_drewN HG.out q) (grown_set _ _ _ _)⟩
   case measure=>simp [intOf]
theorem textN_zero (v:Value) (w:World) (h:IsNat w v 0) :
  Calls Tryz.prog 134 #[v] w fun e w'=>e = .returned (.string (strOfNums (dec 0))) /\ Below w.heap.size w w':=by
 obtain ⟨A,n,c,rfl,hn⟩:=h.ex
 rw [wl_zero] at hn
 subst hn
 have hx:strOfNums (dec 0) = { data:=#[48] }:=dK
 rw [hx]
 clear hx h
 go_enter Tryz.func134,Tryz.ntmps134
 go_wp2
 go_ret
 exact ⟨rfl,Below.refl _ _⟩
theorem wr64 (b E n:Nat) (h:b < E) (hE:E = 10 * n + 9) (hn:n <= 1099511627776):wrap64 (b:Int) = (b:Int):=IntWalk.wrap64_in _ oM
theorem wrap8 (c:Nat):IntKind.u8.wrap (48 + (c:Int) % 10) = ((48 + c % 10:Nat):Int):=by
 simp [IntKind.wrap,IntKind.bits,IntKind.signed]; omega
theorem und_bytes:Tryz.prog.underlying 179 = some (.slice 5):=kR
theorem und_u8:Tryz.prog.underlying 5 = some (.int .u8):=kR
theorem und_str:Tryz.prog.underlying 9 = some .string:=kR
theorem textN_pos (v:Value) (x:Nat) (w:World) (h:IsNat w v x) (h0:0 < x) (hn:wl x <= 1099511627776) :
  Calls Tryz.prog 134 #[v] w fun e w'=>e = .returned (.string (strOfNums (dec x))) /\ Below w.heap.size w w':=by
 have hfx:=Wd_dg x (wl x)
 have hX:=vs_dg_wl x
 have hlt:=lt_wl x
 obtain ⟨A,c,rfl,hc,hw⟩:=h
 have hmk:=make_nat (wl x) hn
 have hmd:=make_digits (wl x) hn
 have hw0:0 < wl x:=Nat.pos_of_ne_zero fun e=>by have:=wl_eq_zero.1 e; omega
 have hne:(((wl x:Nat):Int) == 0) = false:=sO
 have HWL:=hid (show wl x = wl (x / 10 ^ (9 * 0)) by simp)
 generalize hnn:wl x = n at *
 obtain ⟨E,hE⟩:∃ E,E = 10 * n + 9:=⟨_,rfl⟩
 rw [<- hE] at hmd
 obtain ⟨w1,hcp,hr1,hg1⟩:=copy_run (w.alloc (zrow n)) w.heap.size 0 n n n c n n A (fun _=>0) (dg x) (Row.zrow w n) (hw.below (below_alloc _ _)) oM oM
 have hb1:Below w.heap.size w w1:=(below_alloc w _).grown hg1 sP (fun k hk=>by cases hk; exact Nat.le_refl _)
 have hsz:w.heap.size < w1.heap.size:=by have:=hg1.size; simp at this; omega
 have hv1:vs (cpy (fun _=>0) 0 (dg x) n) n = x:=(vs_cpy_zero lR).trans hX
 have hd1:Wd (cpy (fun _=>0) 0 (dg x) n) n:=cpy_zero hfx _
 have hi0:(0:Int) < (n:Int):=oM
 have hE2:(E:Int) = 10 * (n:Int) + 9:=oM
 have HE:=hid hE
 have HB1:=hid hb1
 have HR1:=hid hr1
 have HV1:=hid hv1
 have HD1:=hid hd1
 have HLT:=hid hlt
 clear hE hE2 hb1 hr1 hv1 hd1 hlt hX hfx hw hg1 hnn
 go_enter Tryz.func134,Tryz.ntmps134
 go_wp2
 go_loopw [3,5] (fun rv av wr=>∃ r L a:Nat,∃ f D,rv = .slice (some ⟨w.heap.size,0,none⟩) L n /\ L <= n /\ av = .int .i64 (a:Int) /\ a + 9 * r = E /\ Row wr w.heap.size n f /\ Wd f L /\ vs f L = x / 10 ^ (9 * r) /\ L = wl (x / 10 ^ (9 * r)) /\
   RowB wr w1.heap.size E D /\ (∀ j,a <= j -> j < E -> D j = 48 + x / 10 ^ (E - 1 - j) % 10) /\ Below w.heap.size w wr) (fun _ av _=>(intOf av).toNat)
 case atStart=>exact ⟨0,n,E,_,_,rfl,Nat.le_refl _,rfl,oM,HR1.out.below (below_alloc _ _) hsz,HD1.out,by rw [HV1.out]; simp,HWL.out,RowB.zbytes _ _,fun j h1 h2=>oM,HB1.out.alloc oM _⟩
 case round =>
  obtain ⟨r,L,a,f,D,rfl,hL,rfl,ha,hrow,hwd,hv,hLw,hrb,hD,hb⟩:=hrel
  obtain ⟨wo,rfl⟩:∃ wo:World,wo = wr:=⟨_,rfl⟩
  have HA:=hid ha
  have HV:=hid hv
  have HLw:=hid hLw
  have HDg:=hid hD
  have HRO:=hid hrow
  have HRB:=hid hrb
  have HB:=hid hb
  clear ha hv hLw hD hrow hrb hb HR1 HD1 HV1 HWL
  rcases Nat.eq_zero_or_pos L with hz | hz
  ·subst hz
   have hy0:x / 10 ^ (9 * r) = 0:=wl_eq_zero.1 HLw.out.symm
   have hnd:=nd_le h0 hy0
   obtain ⟨hnd1,-,-⟩:=nd_spec x h0
   have HLD:=hid (lead_digit h0)
   have HLZ:=hid (fun (e j:Nat) (h:nd x <= e - 1 - j)=>lead_zero h h0)
   have haE:a + nd x <= E:=by have:=HA.out; omega
   have HDE:=hid (show dec x = (List.range (nd x)).map fun i=>((48 + x / 10 ^ (nd x - 1 - i) % 10:Nat):Int) from rfl)
   obtain ⟨dx,hdx⟩:∃ l,l = dec x:=⟨_,rfl⟩
   rw [<- hdx] at HDE
   have HDX:=hid hdx
   clear hy0 hnd hdx
   generalize nd x = m at *
   go_wp2_with fail
   go_loop [5] (fun av=>∃ b:Nat,av = .int .i64 (b:Int) /\ a <= b /\ b + m <= E) (fun av=>E - (intOf av).toNat)
   case atStart=>exact ⟨a,rfl,Nat.le_refl _,haE⟩
   case round =>
    obtain ⟨b,rfl,hab,hbE⟩:=hrel
    have hz:=HRB.out.cell (j:=b) oM
    have hix:(b:Int) < (E:Int):=oM
    have hbig:(b:Int) < 20000000000000:=by have:=HE.out; omega
    by_cases hbe:b + m = E
    ·have hdb:D b = 48 + x / 10 ^ (m - 1) % 10:=by rw [HDg.out b hab oM,show E - 1 - b = m - 1 by omega]
     have hlead:=HLD.out
     have hne1:(((D b:Nat):Int) == 48) = false:=sO
     have hcells:∀ i,i < m -> wo.cell? ⟨w1.heap.size,b + i,none⟩ = some (.int .u8 (dx.getD i 0)):=fun i hi=>by
      rw [HRB.out.cell (j:=b + i) oM,HDg.out (b + i) oM oM,HDE.out,show E - 1 - (b + i) = m - 1 - i by omega]
      simp [List.getD,hi]
     have hlen:dx.length = m:=by rw [HDE.out]; simp
     have hcv:=fun cap=>run_convert_bytes_arg (P:=Tryz.prog) wo 179 5 und_bytes und_u8 w1.heap.size b m cap dx hlen hcells 9 und_str
     clear hcells hlen hdb hlead
     generalize D b = db at *
     subst hbe
     go_wp2
     go_ret
     exact ⟨by rw [<- HDX.out]; rfl,HB.out⟩
    ·have hdb:D b = 48:=by rw [HDg.out b hab oM,HLZ.out E b oM]
     rw [hdb] at hz
     clear hdb
     go_wp2
     go_round
     case rel=>exact ⟨b + 1,by go_num,oM,oM⟩
     case measure=>exact mS
  ·have hl0:(0:Int) < (L:Int):=oM
   have ha9:9 <= a:=by
    have h1:0 < x / 10 ^ (9 * r):=Nat.pos_of_ne_zero fun e=>by
     have:=HLw.out
     rw [e,wl_zero] at this
     omega
    have:=rounds_le HLT.out h1
    have:=HA.out
    have:=HE.out
    omega
   go_wp2_with fail
   refine (divWord_same w.heap.size L n _ _ 1000000000 f wo HRO.out hL hwd oM oM oM).mono ?_
   rintro e w2 ⟨c0,f2,rfl,hr2,hw2,hv2,hc2,hg2⟩
   have HRB2:=hid (HRB.out.grown hg2 sO)
   have HB2:=hid (HB.out.grown hg2 HB.out.size (fun k hk=>by cases hk; exact Nat.le_refl _))
   have HR2:=hid hr2
   have hy:vs f2 L = x / 10 ^ (9 * r) / 1000000000 /\ c0 = x / 10 ^ (9 * r) % 1000000000:=by
    have:=HV.out
    omega
   have HY:=hid hy
   have HW2:=hid hw2
   clear hr2 hv2 hg2 hw2 hy
   go_wp2_with fail
   refine (trim_at _ L _ f2 _ (HR2.out.wn0.mono hL) HW2.out hL oM).mono ?_
   rintro e w3 ⟨rfl,-,rfl⟩
   go_wp2_with fail
   go_loopw [5,6,7] (fun av cv iv wr=>∃ k b:Nat,∃ D,k <= 9 /\ av = .int .i64 (b:Int) /\ b + k = a /\ cv = .int .u32 ((c0 / 10 ^ k:Nat):Int) /\ iv = .int .i64 (k:Int) /\ Row wr w.heap.size n f2 /\ RowB wr w1.heap.size E D /\
     (∀ j,b <= j -> j < E -> D j = 48 + x / 10 ^ (E - 1 - j) % 10) /\ Below w.heap.size w wr) (fun _ _ iv _=>(9 - intOf iv).toNat)
   case atStart=>exact ⟨0,a,D,oM,rfl,rfl,sP,rfl,HR2.out,HRB2.out,HDg.out,HB2.out⟩
   case round =>
    obtain ⟨k,b,D2,hk,rfl,hbk,rfl,rfl,hrow2,hrb2,hD2,hbl⟩:=hrel
    have HRO2:=hid hrow2
    have HD2:=hid hD2
    have HBL:=hid hbl
    have HRB3:=hid hrb2
    clear hrow2 hD2 hbl hrb2
    by_cases hk9:k < 9
    ·obtain ⟨b2,rfl⟩:∃ b2,b = b2 + 1:=⟨b - 1,oM⟩
     have hbE:b2 < E:=by have:=HA.out; omega
     have hz:=HRB3.out.cell (j:=b2) hbE
     have hzf:=HRB3.out.frozen b2
     have hcc:c0 / 10 ^ k % 10 = x / 10 ^ (9 * r + k) % 10:=by rw [HY.out.2]; exact digit_step x r k hk9
     have hcl:c0 / 10 ^ k < 4294967296:=Nat.lt_of_le_of_lt (Nat.div_le_self _ _) oM
     have hcn:c0 / 10 ^ k / 10 = c0 / 10 ^ (k + 1):=by rw [Nat.div_div_eq_div_mul,<- Nat.pow_succ]
     have HCC:=hid hcc
     have HCN:=hid hcn
     clear hcc hcn
     generalize c0 / 10 ^ k = cc at *
     have hix:(b2:Int) < (E:Int):=oM
     obtain ⟨t,ht⟩:∃ t:Nat,t = 48 + cc % 10:=⟨_,rfl⟩
     have hw8:=wrap8 cc
     rw [<- ht] at hw8
     have HTT:=hid ht
     clear ht
     have hwb:=wr64 b2 E n hbE HE.out hn
     have HWB:=hid hwb
     go_wp2
     clear hwb
     go_roundw
     case rel =>
      refine ⟨k + 1,b2,upd D2 b2 t,oM,by first | rw [HWB.out] | go_num,oM,?_,by go_num,HRO2.out.grown (grown_set _ _ _ _) sO,HRB3.out.set_ hbE t,fun j h1 h2=>?_,HBL.out.setCell (p:=⟨w1.heap.size,b2,none⟩) (Nat.le_of_lt hsz) _⟩
      ·rw [<- HCN.out]; rfl
      ·unfold upd
       split
       ·next e=>subst e; rw [HTT.out,HCC.out,show E - 1 - j = 9 * r + k by have:=HA.out; omega]
       ·exact HD2.out j oM h2
     case measure=>exact mS
    ·obtain rfl:k = 9:=oM
     go_wp2
     go_roundw
     case rel =>
      exact ⟨r + 1,tl f2 L,b,f2,D2,rfl,Nat.le_trans (tl_le _ _) hL,rfl,by have:=HA.out; omega,HRO2.out,HW2.out.mono (tl_le _ _),by rw [vs_tl,HY.out.1,next_round],by rw [tl_eq HW2.out,HY.out.1,next_round],HRB3.out,HD2.out,HBL.out⟩
     case measure=>exact mS
theorem textN_any (v:Value) (x:Nat) (w:World) (h:IsNat w v x) (hn:wl x <= 1099511627776) :
  Calls Tryz.prog 134 #[v] w fun e w'=>e = .returned (.string (strOfNums (dec x))) /\ Below w.heap.size w w':=by
 rcases Nat.eq_zero_or_pos x with h0 | h0
 ·subst h0; exact textN_zero v w h
 ·exact textN_pos v x w h h0 hn
theorem nd_wl (x:Nat):nd x <= 11 * wl x + 1:=by
 rcases Nat.eq_zero_or_pos x with h0 | h0
 ·subst h0; unfold nd; simp
 ·obtain ⟨h1,h2,h3⟩:=nd_spec x h0
  have h4:=lt_wl x
  have h5:(2:Nat) ^ (3 * (nd x - 1)) <= 10 ^ (nd x - 1):=by
   rw [Nat.pow_mul]
   exact Nat.pow_le_pow_left dK _
  have h6:(4294967296:Nat) ^ wl x = 2 ^ (32 * wl x):=by rw [Nat.pow_mul]
  have h7:(2:Nat) ^ (3 * (nd x - 1)) < 2 ^ (32 * wl x):=oM
  have h8:=(Nat.pow_lt_pow_iff_right (by omega:1 < 2)).1 h7
  omega
theorem dec_size (x:Nat):(strOfNums (dec x)).size = nd x:=by rw [strOfNums_size]; simp [dec]
def rtext (a:Int) (d:Nat):List Int:=(if a < 0 then [45] else []) ++ (dec a.natAbs ++ (if d = 1 then [] else 47 :: dec d))
theorem strs_append (xs ys:List Int):strOfNums xs ++ strOfNums ys = strOfNums (xs ++ ys):=by
 apply ByteArray.ext
 simp [strOfNums]
theorem rt_pw {a:Int} {d:Nat} (h:¬ a < 0) (hd:d = 1):strOfNums (rtext a d) = strOfNums (dec a.natAbs):=by
 unfold rtext; rw [if_neg h,if_pos hd]; simp
theorem rt_nw {a:Int} {d:Nat} (h:a < 0) (hd:d = 1):strOfNums (rtext a d) = { data:=#[45] } ++ strOfNums (dec a.natAbs):=by
 unfold rtext; rw [if_pos h,if_pos hd,List.append_nil,<- strs_append]; rfl
theorem rt_pf {a:Int} {d:Nat} (h:¬ a < 0) (hd:d ≠ 1):strOfNums (rtext a d) = strOfNums (dec a.natAbs) ++ ({ data:=#[47] } ++ strOfNums (dec d)):=by
 unfold rtext; rw [if_neg h,if_neg hd,List.nil_append,<- strs_append,show (47 :: dec d) = [47] ++ dec d from rfl,<- strs_append [47]]; rfl
theorem rt_nf {a:Int} {d:Nat} (h:a < 0) (hd:d ≠ 1):strOfNums (rtext a d) = { data:=#[45] } ++ strOfNums (dec a.natAbs) ++ ({ data:=#[47] } ++ strOfNums (dec d)):=by
 unfold rtext; rw [if_pos h,if_neg hd,<- strs_append,<- strs_append,show (47 :: dec d) = [47] ++ dec d from rfl,<- strs_append [47],ByteArray.append_assoc]; rfl
theorem realText_pw (v:Value) (x:Cx) (a b:Int) (d:Nat) (w:World) (h:IsNum w v x) (hx:Low x a b d) (sa:wl a.natAbs <= 1099511627776) (sd:wl d <= 1099511627776) (hp:¬ a < 0) (hd:d = 1) :
  Calls Tryz.prog 100 #[v] w fun e w'=>e = .returned (.string (strOfNums (rtext a d))) /\ Below w.heap.size w w':=by
 obtain ⟨A1,n1,c1,p1,A2,n2,c2,p2,A3,n3,c3,a',b',d',rfl,hl,hr,hi,hs,hn3,hq1,-,hra,-⟩:=h.parts
 obtain ⟨rfl,rfl,rfl⟩:=hx.uniq hl
 have HA:=hid (fun W (hb:Below w.heap.size w W)=>textN_any _ _ W (hra.below hb) sa)
 have hq:p1 = false:=by rw [hq1]; simpa using hp
 subst hq
 have z1:=dec_size a.natAbs
 have z2:=nd_wl a.natAbs
 have z3:=dec_size d
 have z4:=nd_wl d
 rw [rt_pw hp hd]
 rw [hd,dn_one,wl_zero] at hn3
 subst hn3
 clear hd hp hq1 hra hl hr hi hs h hx sa sd z1 z2 z3 z4
 generalize strOfNums (dec a.natAbs) = S1 at *
 go_enter Tryz.func100,Tryz.ntmps100
 go_wp2_with fail
 refine (HA.out _ bel).mono ?_
 rintro e W7 ⟨rfl,hb7⟩
 obtain ⟨hc7,hf7,hz7⟩:=bcells hb7 (w.heap.size + 1) sP
 have B7:Below w.heap.size w W7:=bel
 go_wp2
 go_ret
 exact ⟨rfl,B7⟩
theorem realText_pf (v:Value) (x:Cx) (a b:Int) (d:Nat) (w:World) (h:IsNum w v x) (hx:Low x a b d) (sa:wl a.natAbs <= 1099511627776) (sd:wl d <= 1099511627776) (hp:¬ a < 0) (hd:d ≠ 1) :
  Calls Tryz.prog 100 #[v] w fun e w'=>e = .returned (.string (strOfNums (rtext a d))) /\ Below w.heap.size w w':=by
 obtain ⟨A1,n1,c1,p1,A2,n2,c2,p2,A3,n3,c3,a',b',d',rfl,hl,hr,hi,hs,hn3,hq1,-,hra,-⟩:=h.parts
 obtain ⟨rfl,rfl,rfl⟩:=hx.uniq hl
 have HA:=hid (fun W (hb:Below w.heap.size w W)=>textN_any _ _ W (hra.below hb) sa)
 have hq:p1 = false:=by rw [hq1]; simpa using hp
 subst hq
 have z1:=dec_size a.natAbs
 have z2:=nd_wl a.natAbs
 have z3:=dec_size d
 have z4:=nd_wl d
 rw [rt_pf hp hd]
 have hdn:dn d = d:=if_neg hd
 rw [hdn] at hn3 hs
 have HD:=hid (fun W (hb:Below w.heap.size w W)=>textN_any _ _ W (hs.below hb) sd)
 have h3:0 < n3:=by rw [hn3]; exact Nat.pos_of_ne_zero fun e=>by have:=wl_eq_zero.1 e; have:=hl.pos; omega
 have y2:¬ (9223372036854775807 < 1 + (strOfNums (dec d)).size):=oM
 have y3:¬ (9223372036854775807 < (strOfNums (dec a.natAbs)).size + (1 + (strOfNums (dec d)).size)):=oM
 clear hn3 hdn
 clear hd hp hq1 hra hl hr hi hs h hx sa sd z1 z2 z3 z4
 generalize strOfNums (dec a.natAbs) = S1 at *
 generalize strOfNums (dec d) = S2 at *
 go_enter Tryz.func100,Tryz.ntmps100
 go_wp2_with fail
 refine (HA.out _ bel).mono ?_
 rintro e W7 ⟨rfl,hb7⟩
 obtain ⟨hc7,hf7,hz7⟩:=bcells hb7 (w.heap.size + 1) sP
 have B7:Below w.heap.size w W7:=bel
 go_wp2_with fail
 refine (HD.out _ B7).mono ?_
 rintro e W8 ⟨rfl,hb8⟩
 obtain ⟨hc8,hf8,hz8⟩:=bcells hb8 (w.heap.size + 1) oM
 have B8:=bT B7 hb8
 go_wp2
 go_ret
 exact ⟨rfl,B8⟩
theorem realText_nw (v:Value) (x:Cx) (a b:Int) (d:Nat) (w:World) (h:IsNum w v x) (hx:Low x a b d) (sa:wl a.natAbs <= 1099511627776) (sd:wl d <= 1099511627776) (hp:a < 0) (hd:d = 1) :
  Calls Tryz.prog 100 #[v] w fun e w'=>e = .returned (.string (strOfNums (rtext a d))) /\ Below w.heap.size w w':=by
 obtain ⟨A1,n1,c1,p1,A2,n2,c2,p2,A3,n3,c3,a',b',d',rfl,hl,hr,hi,hs,hn3,hq1,-,hra,-⟩:=h.parts
 obtain ⟨rfl,rfl,rfl⟩:=hx.uniq hl
 have HA:=hid (fun W (hb:Below w.heap.size w W)=>textN_any _ _ W (hra.below hb) sa)
 have hq:p1 = true:=by rw [hq1]; simpa using hp
 subst hq
 have z1:=dec_size a.natAbs
 have z2:=nd_wl a.natAbs
 have z3:=dec_size d
 have z4:=nd_wl d
 rw [rt_nw hp hd]
 rw [hd,dn_one,wl_zero] at hn3
 subst hn3
 have y1:¬ (9223372036854775807 < 1 + (strOfNums (dec a.natAbs)).size):=oM
 clear hd hp hq1 hra hl hr hi hs h hx sa sd z1 z2 z3 z4
 generalize strOfNums (dec a.natAbs) = S1 at *
 go_enter Tryz.func100,Tryz.ntmps100
 go_wp2_with fail
 refine (HA.out _ bel).mono ?_
 rintro e W7 ⟨rfl,hb7⟩
 obtain ⟨hc7,hf7,hz7⟩:=bcells hb7 (w.heap.size + 1) sP
 have B7:Below w.heap.size w W7:=bel
 go_wp2
 go_ret
 exact ⟨rfl,B7⟩
theorem realText_nf (v:Value) (x:Cx) (a b:Int) (d:Nat) (w:World) (h:IsNum w v x) (hx:Low x a b d) (sa:wl a.natAbs <= 1099511627776) (sd:wl d <= 1099511627776) (hp:a < 0) (hd:d ≠ 1) :
  Calls Tryz.prog 100 #[v] w fun e w'=>e = .returned (.string (strOfNums (rtext a d))) /\ Below w.heap.size w w':=by
 obtain ⟨A1,n1,c1,p1,A2,n2,c2,p2,A3,n3,c3,a',b',d',rfl,hl,hr,hi,hs,hn3,hq1,-,hra,-⟩:=h.parts
 obtain ⟨rfl,rfl,rfl⟩:=hx.uniq hl
 have HA:=hid (fun W (hb:Below w.heap.size w W)=>textN_any _ _ W (hra.below hb) sa)
 have hq:p1 = true:=by rw [hq1]; simpa using hp
 subst hq
 have z1:=dec_size a.natAbs
 have z2:=nd_wl a.natAbs
 have z3:=dec_size d
 have z4:=nd_wl d
 rw [rt_nf hp hd]
 have hdn:dn d = d:=if_neg hd
 rw [hdn] at hn3 hs
 have HD:=hid (fun W (hb:Below w.heap.size w W)=>textN_any _ _ W (hs.below hb) sd)
 have h3:0 < n3:=by rw [hn3]; exact Nat.pos_of_ne_zero fun e=>by have:=wl_eq_zero.1 e; have:=hl.pos; omega
 have y1:¬ (9223372036854775807 < 1 + (strOfNums (dec a.natAbs)).size):=oM
 have y2:¬ (9223372036854775807 < 1 + (strOfNums (dec d)).size):=oM
 have y3:¬ (9223372036854775807 < 1 + (strOfNums (dec a.natAbs)).size + (1 + (strOfNums (dec d)).size)):=oM
 clear hn3 hdn
 clear hd hp hq1 hra hl hr hi hs h hx sa sd z1 z2 z3 z4
 generalize strOfNums (dec a.natAbs) = S1 at *
 generalize strOfNums (dec d) = S2 at *
 go_enter Tryz.func100,Tryz.ntmps100
 go_wp2_with fail
 refine (HA.out _ bel).mono ?_
 rintro e W7 ⟨rfl,hb7⟩
 obtain ⟨hc7,hf7,hz7⟩:=bcells hb7 (w.heap.size + 1) sP
 have B7:Below w.heap.size w W7:=bel
 go_wp2_with fail
 refine (HD.out _ B7).mono ?_
 rintro e W8 ⟨rfl,hb8⟩
 obtain ⟨hc8,hf8,hz8⟩:=bcells hb8 (w.heap.size + 1) oM
 have B8:=bT B7 hb8
 go_wp2
 go_ret
 exact ⟨rfl,B8⟩
theorem realText_any (v:Value) (x:Cx) (a b:Int) (d:Nat) (w:World) (h:IsNum w v x) (hx:Low x a b d) (sa:wl a.natAbs <= 1099511627776) (sd:wl d <= 1099511627776) :
  Calls Tryz.prog 100 #[v] w fun e w'=>e = .returned (.string (strOfNums (rtext a d))) /\ Below w.heap.size w w':=by
 by_cases hp:a < 0
 ·by_cases hd:d = 1
  ·exact realText_nw v x a b d w h hx sa sd hp hd
  ·exact realText_nf v x a b d w h hx sa sd hp hd
 ·by_cases hd:d = 1
  ·exact realText_pw v x a b d w h hx sa sd hp hd
  ·exact realText_pf v x a b d w h hx sa sd hp hd
end Go.Proofs.YtffegeaflohfhaaGreatDoor
