/-
  Part of the proof.
-/
import Derived.Test.YtlhpodholnfppaaGreatDoorZ6
import Derived.Test.YtlhpodholnfppaaGreatDoorZ7
import Derived.LaidEql
set_option linter.unusedVariables false
set_option linter.unusedSimpArgs false
set_option maxHeartbeats 16000000
set_option maxRecDepth 100000
set_option linter.defProp false
open Go.Lib (hid)
namespace Go.Proofs.YtlhpodholnfppaaGreatDoor.Td
open Go.Proofs.Tryz
open Go.ChangeShapes Go.WideShapes Go.ChangeAt Go.RowKit
def zIH : List (String × DataW Unit) := [("marionette/comp.operators", Rows.laid_marionette_comp_operators), ("marionette/comp.reckoners", Rows.laid_marionette_comp_reckoners), ("marionette/inst.jumps", Rows.laid_marionette_inst_jumps), ("marionette/inst.branches", Rows.laid_marionette_inst_branches), ("marionette/inst.loads", Rows.laid_marionette_inst_loads), ("marionette/inst.stores", Rows.laid_marionette_inst_stores), ("marionette/inst.immediates", Rows.laid_marionette_inst_immediates), ("marionette/inst.shifts", Rows.laid_marionette_inst_shifts), ("marionette/inst.otherShifts", Rows.laid_marionette_inst_otherShifts), ("marionette/inst.plain", Rows.laid_marionette_inst_plain), ("marionette/inst.otherPlain", Rows.laid_marionette_inst_otherPlain), ("marionette/inst.products", Rows.laid_marionette_inst_products), ("marionette/inst.narrowImmediates", Rows.laid_marionette_inst_narrowImmediates), ("marionette/inst.narrowShifts", Rows.laid_marionette_inst_narrowShifts), ("marionette/inst.otherNarrowShifts", Rows.laid_marionette_inst_otherNarrowShifts), ("marionette/inst.narrowPlain", Rows.laid_marionette_inst_narrowPlain), ("marionette/inst.otherNarrowPlain", Rows.laid_marionette_inst_otherNarrowPlain), ("marionette/inst.narrowProducts", Rows.laid_marionette_inst_narrowProducts), ("marionette/inst.fences", Rows.laid_marionette_inst_fences), ("marionette/inst.atomicWords", Rows.laid_marionette_inst_atomicWords), ("marionette/inst.atomicDoubles", Rows.laid_marionette_inst_atomicDoubles)]
theorem zKZ:prog.cellsOf 220=32:=by kernel_rfl
structure zBk (w:World):Prop where
 c:zEu w
 i:Tabs w
theorem gS1 : prog.globalNamed "marionette/inst.jumps" = some 1 := by kernel_rfl
theorem yS1:(prog.globals[1]?).map (·.type)=some 209:=by kernel_rfl
theorem gS2 : prog.globalNamed "marionette/inst.branches" = some 2 := by kernel_rfl
theorem yS2:(prog.globals[2]?).map (·.type)=some 209:=by kernel_rfl
theorem gS3 : prog.globalNamed "marionette/inst.loads" = some 3 := by kernel_rfl
theorem yS3:(prog.globals[3]?).map (·.type)=some 209:=by kernel_rfl
theorem gS4 : prog.globalNamed "marionette/inst.stores" = some 4 := by kernel_rfl
theorem yS4:(prog.globals[4]?).map (·.type)=some 209:=by kernel_rfl
theorem gS13 : prog.globalNamed "marionette/inst.immediates" = some 12 := by kernel_rfl
theorem yS13:(prog.globals[12]?).map (·.type)=some 209:=by kernel_rfl
theorem gS14 : prog.globalNamed "marionette/inst.shifts" = some 13 := by kernel_rfl
theorem yS14:(prog.globals[13]?).map (·.type)=some 209:=by kernel_rfl
theorem gS15 : prog.globalNamed "marionette/inst.otherShifts" = some 14 := by kernel_rfl
theorem yS15:(prog.globals[14]?).map (·.type)=some 209:=by kernel_rfl
theorem gS5 : prog.globalNamed "marionette/inst.plain" = some 5 := by kernel_rfl
theorem yS5:(prog.globals[5]?).map (·.type)=some 209:=by kernel_rfl
theorem gS6 : prog.globalNamed "marionette/inst.otherPlain" = some 6 := by kernel_rfl
theorem yS6:(prog.globals[6]?).map (·.type)=some 209:=by kernel_rfl
theorem gS7 : prog.globalNamed "marionette/inst.products" = some 7 := by kernel_rfl
theorem yS7:(prog.globals[7]?).map (·.type)=some 209:=by kernel_rfl
theorem gS16 : prog.globalNamed "marionette/inst.narrowImmediates" = some 15 := by kernel_rfl
theorem yS16:(prog.globals[15]?).map (·.type)=some 209:=by kernel_rfl
theorem gS17 : prog.globalNamed "marionette/inst.narrowShifts" = some 16 := by kernel_rfl
theorem yS17:(prog.globals[16]?).map (·.type)=some 209:=by kernel_rfl
theorem gS18 : prog.globalNamed "marionette/inst.otherNarrowShifts" = some 17 := by kernel_rfl
theorem yS18:(prog.globals[17]?).map (·.type)=some 209:=by kernel_rfl
theorem gS8 : prog.globalNamed "marionette/inst.narrowPlain" = some 8 := by kernel_rfl
theorem yS8:(prog.globals[8]?).map (·.type)=some 209:=by kernel_rfl
theorem gS9 : prog.globalNamed "marionette/inst.otherNarrowPlain" = some 9 := by kernel_rfl
theorem yS9:(prog.globals[9]?).map (·.type)=some 209:=by kernel_rfl
theorem gS10 : prog.globalNamed "marionette/inst.narrowProducts" = some 10 := by kernel_rfl
theorem yS10:(prog.globals[10]?).map (·.type)=some 209:=by kernel_rfl
theorem gS11 : prog.globalNamed "marionette/inst.fences" = some 11 := by kernel_rfl
theorem yS11:(prog.globals[11]?).map (·.type)=some 209:=by kernel_rfl
theorem gS19 : prog.globalNamed "marionette/inst.atomicWords" = some 18 := by kernel_rfl
theorem yS19:(prog.globals[18]?).map (·.type)=some 220:=by kernel_rfl
theorem gS20 : prog.globalNamed "marionette/inst.atomicDoubles" = some 19 := by kernel_rfl
theorem yS20:(prog.globals[19]?).map (·.type)=some 220:=by kernel_rfl
variable {W:World}
theorem zJD (h:laidMetH prog zIH W):zBk W:=by
 rw [MakeChecks.laidMetH_plain _ _ _ (by kernel_rfl)] at h;have mO:=tabO_of h;replace h:=h.tail;have mR:=tabR_of h;replace h:=h.tail;have m1:Tab W 1 [4,0,0,0,0,0,0,0]:=fun i hi=>(Lib.tabIs_of_head (k:=.i64) (zs:=[4,0,0,0,0,0,0,0]) gS1 yS1 underlying209 underlying3 cells3 zAc h).cell gS1 i hi
 replace h:=h.tail;have m2:Tab W 2 [5,6,0,0,7,8,9,10]:=fun i hi=>(Lib.tabIs_of_head (k:=.i64) (zs:=[5,6,0,0,7,8,9,10]) gS2 yS2 underlying209 underlying3 cells3 zAc h).cell gS2 i hi
 replace h:=h.tail;have m3:Tab W 3 [11,12,13,14,15,16,17,0]:=fun i hi=>(Lib.tabIs_of_head (k:=.i64) (zs:=[11,12,13,14,15,16,17,0]) gS3 yS3 underlying209 underlying3 cells3 zAc h).cell gS3 i hi
 replace h:=h.tail;have m4:Tab W 4 [18,19,20,21,0,0,0,0]:=fun i hi=>(Lib.tabIs_of_head (k:=.i64) (zs:=[18,19,20,21,0,0,0,0]) gS4 yS4 underlying209 underlying3 cells3 zAc h).cell gS4 i hi
 replace h:=h.tail;have m13:Tab W 12 [22,0,23,24,25,0,26,27]:=fun i hi=>(Lib.tabIs_of_head (k:=.i64) (zs:=[22,0,23,24,25,0,26,27]) gS13 yS13 underlying209 underlying3 cells3 zAc h).cell gS13 i hi
 replace h:=h.tail;have m14:Tab W 13 [0,28,0,0,0,29,0,0]:=fun i hi=>(Lib.tabIs_of_head (k:=.i64) (zs:=[0,28,0,0,0,29,0,0]) gS14 yS14 underlying209 underlying3 cells3 zAc h).cell gS14 i hi
 replace h:=h.tail;have m15:Tab W 14 [0,0,0,0,0,30,0,0]:=fun i hi=>(Lib.tabIs_of_head (k:=.i64) (zs:=[0,0,0,0,0,30,0,0]) gS15 yS15 underlying209 underlying3 cells3 zAc h).cell gS15 i hi
 replace h:=h.tail;have m5:Tab W 5 [31,33,34,35,36,37,39,40]:=fun i hi=>(Lib.tabIs_of_head (k:=.i64) (zs:=[31,33,34,35,36,37,39,40]) gS5 yS5 underlying209 underlying3 cells3 zAc h).cell gS5 i hi
 replace h:=h.tail;have m6:Tab W 6 [32,0,0,0,0,38,0,0]:=fun i hi=>(Lib.tabIs_of_head (k:=.i64) (zs:=[32,0,0,0,0,38,0,0]) gS6 yS6 underlying209 underlying3 cells3 zAc h).cell gS6 i hi
 replace h:=h.tail;have m7:Tab W 7 [50,51,52,53,54,55,56,57]:=fun i hi=>(Lib.tabIs_of_head (k:=.i64) (zs:=[50,51,52,53,54,55,56,57]) gS7 yS7 underlying209 underlying3 cells3 zAc h).cell gS7 i hi
 replace h:=h.tail;have m16:Tab W 15 [41,0,0,0,0,0,0,0]:=fun i hi=>(Lib.tabIs_of_head (k:=.i64) (zs:=[41,0,0,0,0,0,0,0]) gS16 yS16 underlying209 underlying3 cells3 zAc h).cell gS16 i hi
 replace h:=h.tail;have m17:Tab W 16 [0,42,0,0,0,43,0,0]:=fun i hi=>(Lib.tabIs_of_head (k:=.i64) (zs:=[0,42,0,0,0,43,0,0]) gS17 yS17 underlying209 underlying3 cells3 zAc h).cell gS17 i hi
 replace h:=h.tail;have m18:Tab W 17 [0,0,0,0,0,44,0,0]:=fun i hi=>(Lib.tabIs_of_head (k:=.i64) (zs:=[0,0,0,0,0,44,0,0]) gS18 yS18 underlying209 underlying3 cells3 zAc h).cell gS18 i hi
 replace h:=h.tail;have m8:Tab W 8 [45,47,0,0,0,48,0,0]:=fun i hi=>(Lib.tabIs_of_head (k:=.i64) (zs:=[45,47,0,0,0,48,0,0]) gS8 yS8 underlying209 underlying3 cells3 zAc h).cell gS8 i hi
 replace h:=h.tail;have m9:Tab W 9 [46,0,0,0,0,49,0,0]:=fun i hi=>(Lib.tabIs_of_head (k:=.i64) (zs:=[46,0,0,0,0,49,0,0]) gS9 yS9 underlying209 underlying3 cells3 zAc h).cell gS9 i hi
 replace h:=h.tail;have m10:Tab W 10 [58,0,0,0,59,60,61,62]:=fun i hi=>(Lib.tabIs_of_head (k:=.i64) (zs:=[58,0,0,0,59,60,61,62]) gS10 yS10 underlying209 underlying3 cells3 zAc h).cell gS10 i hi
 replace h:=h.tail;have m11:Tab W 11 [85,86,0,0,0,0,0,0]:=fun i hi=>(Lib.tabIs_of_head (k:=.i64) (zs:=[85,86,0,0,0,0,0,0]) gS11 yS11 underlying209 underlying3 cells3 zAc h).cell gS11 i hi
 replace h:=h.tail;have m19:Tab W 18 [66,65,63,64,67,0,0,0,69,0,0,0,68,0,0,0,70,0,0,0,71,0,0,0,72,0,0,0,73,0,0,0]:=fun i hi=>(Lib.tabIs_of_head (k:=.i64) (zs:=[66,65,63,64,67,0,0,0,69,0,0,0,68,0,0,0,70,0,0,0,71,0,0,0,72,0,0,0,73,0,0,0]) gS19 yS19 underlying220 underlying3 cells3 zKZ h).cell gS19 i hi
 replace h:=h.tail;have m20:Tab W 19 [77,76,74,75,78,0,0,0,80,0,0,0,79,0,0,0,81,0,0,0,82,0,0,0,83,0,0,0,84,0,0,0]:=fun i hi=>(Lib.tabIs_of_head (k:=.i64) (zs:=[77,76,74,75,78,0,0,0,80,0,0,0,79,0,0,0,81,0,0,0,82,0,0,0,83,0,0,0,84,0,0,0]) gS20 yS20 underlying220 underlying3 cells3 zKZ h).cell gS20 i hi
 replace h:=h.tail;exact ⟨⟨mO,mR⟩,⟨m1,m2,m3,m4,m5,m6,m7,m8,m9,m10,m11,m13,m14,m15,m16,m17,m18,m19,m20⟩⟩
theorem zIL (os:Os) (args:Array Value):laidMetH prog zIH ((World.doorLaid prog 117 os).forCall (fun _ _=>0) ⟨#[],args,[]⟩).memory:=
 laidMetH_of_parts3 (fuel:=8) (laidMet_of_run' 8 (by kernel_rfl) (by kernel_rfl)) (by kernel_rfl) (by kernel_rfl)
end Go.Proofs.YtlhpodholnfppaaGreatDoor.Td
namespace Go.Proofs.YtlhpodholnfppaaGreatDoor
open Go.Proofs.Tryz
open Go.RowKit
variable {w w' w0:World}
theorem Td.Kp.bl (h:Td.Kp none w w'):Bl w w':=⟨h.os,h.tape,h.output,h.size,fun k hk=>h.block k hk (by simp)⟩
variable {zs:List Int} {B b cb g g2 k n q s sb y:Nat}
theorem Td.Tab.at_ (h:Td.Tab w g zs) (hb:w'.heap[g]?=w.heap[g]?):Td.Tab w' g zs:=fun i hi=>by
 rw [World.cell?_of_block (w:=w) hb];exact h i hi
theorem Td.TabC.at_ (h:Td.TabC w g zs) (hb:w'.heap[g]?=w.heap[g]?):Td.TabC w' g zs:=fun i hi=>by
 rw [World.cell?_of_block (w:=w) hb];exact h i hi
theorem Td.zBk.blocks (h:Td.zBk w) (hb:∀ g,g<21→w'.heap[g]?=w.heap[g]?):Td.zBk w':=
 ⟨⟨h.c.o.at_ (hb _ (by decide)),h.c.r.at_ (hb _ (by decide))⟩,⟨h.i.t0.at_ (hb _ (by decide)),h.i.t1.at_ (hb _ (by decide)),h.i.t2.at_ (hb _ (by decide)),h.i.t3.at_ (hb _ (by decide)),h.i.t4.at_ (hb _ (by decide)),h.i.t5.at_ (hb _ (by decide)),h.i.t6.at_ (hb _ (by decide)),h.i.t7.at_ (hb _ (by decide)),h.i.t8.at_ (hb _ (by decide)),h.i.t9.at_ (hb _ (by decide)),h.i.t10.at_ (hb _ (by decide)),h.i.t11.at_ (hb _ (by decide)),h.i.t12.at_ (hb _ (by decide)),h.i.t13.at_ (hb _ (by decide)),h.i.t14.at_ (hb _ (by decide)),h.i.t15.at_ (hb _ (by decide)),h.i.t16.at_ (hb _ (by decide)),h.i.t17.at_ (hb _ (by decide)),h.i.t18.at_ (hb _ (by decide))⟩⟩
theorem Td.zBk.lt (h:Td.zBk w) (hg:g<21):g<w.heap.size:=by
 have h1:=block_lt_of_cell (h.i.t18 0 (by decide));have h2:=block_lt_of_cell (h.c.r 0 (by decide));have h3:=block_lt_of_cell (h.c.o 0 (by decide));simp only at h1 h2 h3;omega
theorem Td.zBk.bl (h:Td.zBk w) (k:Bl w w'):Td.zBk w':=h.blocks fun g hg=>k.block g (h.lt hg)
variable {S T:Nat→Prop}
theorem Td.zBk.fr (h:Td.zBk w) (k:Fr S w w') (hS:∀ g,g<21→¬ S g):Td.zBk w':=h.blocks fun g hg=>k.block g (h.lt hg) (hS g hg)
def zJf (k fk fa:Int):Value:=.agg #[.int .i64 k,.int .i64 fk,.int .u64 fa]
def zCs (y:Nat):Td.Ins:=if y%4=3 then Td.dec y else if (Td.ex (y%65536)).op=0 then Td.zDh else ⟨(Td.ex (y%65536)).op,(Td.ex (y%65536)).rd,(Td.ex (y%65536)).r1,(Td.ex (y%65536)).r2,(Td.ex (y%65536)).im,0,2⟩
def okOf (y:Nat):Bool:=if y%4=3 then decide (Td.opW y≠0) else Td.exB (y%65536)
theorem zDR (h:y%4=3):zCs y=Td.dec y:=if_pos h
theorem zEE (h:y%4=3):okOf y=decide (Td.opW y≠0):=if_pos h
theorem zDu (h:y%4≠3):(zCs y).cells=Td.exI (y%65536):=by
 unfold zCs Td.exI;rw [if_neg h]
 split<;>rfl
theorem zEU (h:y%4≠3):okOf y=Td.exB (y%65536):=if_neg h
theorem parts_sz (o:Int) (s:Nat) {f:Td.Fm} (h:f≠.no):(Td.parts o s f).sz=4:=by cases f<;>first|rfl|exact absurd rfl h
theorem op_no {c f:Nat} (h:Td.fmC c f=.no):Td.opC c f g s=0:=by
 have n55:c≠55:=fun e=>by
  subst e
  revert h
  unfold Td.fmC;simp
 have n23:c≠23:=fun e=>by
  subst e
  revert h
  unfold Td.fmC;simp
 have n111:c≠111:=fun e=>by
  subst e
  revert h
  unfold Td.fmC;simp
 have n103:c≠103:=fun e=>by
  subst e
  revert h
  unfold Td.fmC;simp
 have n99:c≠99:=fun e=>by
  subst e
  revert h
  unfold Td.fmC;simp
 have n3:c≠3:=fun e=>by
  subst e
  revert h
  unfold Td.fmC;simp
 have n35:c≠35:=fun e=>by
  subst e
  revert h
  unfold Td.fmC;simp
 have n19:c≠19:=fun e=>by
  subst e
  revert h
  unfold Td.fmC;simp only [Nat.reduceEqDiff,if_true,if_false]
  split<;>(intro h;cases h)
 have n51:c≠51:=fun e=>by
  subst e
  revert h
  unfold Td.fmC;simp
 have n27:c≠27:=fun e=>by
  subst e
  revert h
  unfold Td.fmC;simp only [Nat.reduceEqDiff,if_true,if_false]
  split<;>(intro h;cases h)
 have n59:c≠59:=fun e=>by
  subst e
  revert h
  unfold Td.fmC;simp
 have n47:c≠47:=fun e=>by
  subst e
  revert h
  unfold Td.fmC;simp
 have n15:c≠15:=fun e=>by
  subst e
  revert h
  unfold Td.fmC;simp
 have n115:c≠115:=fun e=>by
  subst e
  revert h
  unfold Td.fmC;simp
 unfold Td.opC;rw [if_neg n55,if_neg n23,if_neg n111,if_neg n103,if_neg n99,if_neg n3,if_neg n35,if_neg n19,if_neg n51,if_neg n27,if_neg n59,if_neg n47,if_neg n15,if_neg n115]
theorem zJL (h:okOf y=true):(zCs y).sz=if y%4=3 then 4 else 2:=by
 by_cases h4:y%4=3
 ·rw [zDR h4,if_pos h4];rw [zEE h4] at h;unfold Td.dec;rw [if_neg (by simpa using h)];exact parts_sz _ _ fun e=>by
   have h0:Td.opW y=0:=op_no e;simp [h0] at h
 ·rw [if_neg h4];rw [zEU h4] at h;unfold Td.exB at h;unfold zCs;rw [if_neg h4,if_neg (by simpa using h)]
structure Ans where
 i:Td.Ins
 k:Int
 fk:Int
 fa:Int
def Ans.v (A:Ans):Value:=.tuple #[.agg A.i.cells,zJf A.k A.fk A.fa]
def zEM (pc:Nat) (y k x:Int):Ans:=if k=0 then (if okOf y.toNat=true then ⟨zCs y.toNat,0,0,0⟩ else ⟨Td.zDh,3,3,pc⟩) else ⟨Td.zDh,4,k,x⟩
def zBl (L:List Rg) (M:Nat→Int) (pc:Nat) (A:Ans):Prop:=∃ y k x,zAx L M pc y k x∧A=zEM pc y k x
variable {L L':List Rg} {M M' st:Nat→Int}
theorem zBl.one {pc:Nat} {A B:Ans} (h:zBl L M pc A) (g:zBl L M pc B):A=B:=by
 obtain ⟨y,k,x,h1,rfl⟩:=h;obtain ⟨y',k',x',g1,rfl⟩:=g;obtain ⟨rfl,rfl,rfl⟩:=h1.one g1
 rfl
theorem zJN {a:Nat} {y k x:Int} (hb:∀ x,0≤M x∧M x≤255) (h:zAx L M a y k x):0≤y∧y<4294967296:=by
 have h0:=hb a;have h1:=hb (a+1);have h2:=hb (a+2);have h3:=hb (a+3);cases h<;>first|omega|(rw [zDq];omega)|(rw [zIb];omega)
def Agree (L L':List Rg) (M M':Nat→Int) (p:Nat):Prop:=(∀ x,x/4096=p→M' x=M x)∧∀ q,In L ((p:Int)*4096) q↔In L' ((p:Int)*4096) q
theorem zDD (h:Al L) (x q:Int):In L x q↔In L (x/4096*4096) q:=by
 constructor
 ·rintro ⟨r,hr,h1,h2,h3⟩
  have:=h r hr
  exact ⟨r,hr,by omega,by omega,h3⟩
 ·rintro ⟨r,hr,h1,h2,h3⟩
  have:=h r hr
  exact ⟨r,hr,by omega,by omega,h3⟩
theorem Agree.can {p:Nat} (h:Agree L L' M M' p) (hl:Al L) (hl':Al L') {x t:Int} (hx:x/4096=p):Can L t x↔Can L' t x:=by
 unfold Can
 constructor
 ·rintro ⟨q,h1,h2⟩;exact ⟨q,by rw [zDD hl',hx,← h.2,← hx,← zDD hl];exact h1,h2⟩
 ·rintro ⟨q,h1,h2⟩;exact ⟨q,by rw [zDD hl,hx,h.2,← hx,← zDD hl'];exact h1,h2⟩
theorem zEV {a:Nat} (h:∀ x,a≤x→x<a+n→M' x=M x):zb M' a n=zb M a n:=by
 unfold zb
 congr 1
 apply List.ext_getElem?
 intro i;by_cases hi:i<n
 ·rw [zCD _ _ _ _ hi,zCD _ _ _ _ hi,h _ (by omega) (by omega)]
 ·rw [List.getElem?_eq_none (by rw [zT];omega),List.getElem?_eq_none (by rw [zT];omega)]
variable {i:Td.Ins}
theorem zBl.keep {pc:Nat} (h:zBl L M pc ⟨i,0,0,0⟩) (hl:Al L) (hl':Al L')
 (h1:Agree L L' M M' (pc/4096)) (h2:Agree L L' M M' ((pc+i.sz.toNat - 1)/4096)) (hb:∀ x,0≤M x∧M x≤255):zBl L' M' pc ⟨i,0,0,0⟩:=by
 obtain ⟨y,k,x,hf,he⟩:=h;have hk:k=0:=by
  apply Classical.byContradiction
  intro hk;unfold zEM at he;rw [if_neg hk] at he;injection he with _ he;cases he
 subst hk;have he2:=he;unfold zEM at he2;rw [if_pos rfl] at he2;have hok:okOf y.toNat=true:=by
  apply Classical.byContradiction
  intro hk;rw [if_neg hk] at he2;injection he2 with _ he2;cases he2
 rw [if_pos hok] at he2;injection he2 with hi;have hsz:=zJL hok;rw [← hi] at hsz;have hn2:=zGX hb pc;have hn4:=num42 (M:=M) pc;have hn3:=zGX hb (pc+2);refine ⟨y,0,x,?_,he⟩;cases hf with
 | short g1 g2 g3 =>
  rw [if_neg (by omega)] at hsz;have e:zb M' pc 2=zb M pc 2:=zEV fun z z1 z2=>h1.1 z (by omega)
  rw [← e];exact .short g1 (fun z z1 z2=>(h1.can hl hl' (by omega)).1 (g2 z z1 z2)) (by rw [e];exact g3)
 | long g1 g2 g4 g3 =>
  rw [if_pos (by omega)] at hsz;rw [hsz] at h2;have e:zb M' pc 2=zb M pc 2:=zEV fun z z1 z2=>h1.1 z (by omega)
  have e4:zb M' pc 4=zb M pc 4:=zEV fun z z1 z2=>by
   by_cases hz:z<pc+2
   ·exact h1.1 z (by omega)
   ·exact h2.1 z (by omega)
  rw [← e4];exact .long g1 (fun z z1 z2=>(h1.can hl hl' (by omega)).1 (g2 z z1 z2)) (fun z z1 z2=>(h2.can hl hl' (by omega)).1 (g4 z z1 z2)) (by rw [e];exact g3)
theorem zBl.size {pc:Nat} (h:zBl L M pc ⟨i,0,0,0⟩) (hs:So 0 274877906944 L):(i.sz=2∨i.sz=4)∧pc<274877906944:=by
 obtain ⟨y,k,x,hf,he⟩:=h;have hk:k=0:=by
  apply Classical.byContradiction
  intro hk;unfold zEM at he;rw [if_neg hk] at he;injection he with _ he;cases he
 subst hk;unfold zEM at he;rw [if_pos rfl] at he;have hok:okOf y.toNat=true:=by
  apply Classical.byContradiction
  intro hk;rw [if_neg hk] at he;injection he with _ he;cases he
 rw [if_pos hok] at he;injection he with hi;have hsz:=zJL hok;rw [← hi] at hsz;refine ⟨?_,?_⟩
 ·split at hsz
  ·exact .inr hsz
  ·exact .inl hsz
 ·cases hf with
  | short g1 g2 g3=>have:=zGJ hs (g2 pc (by omega) (by omega));omega
  | long g1 g2 g4 g3=>have:=zGJ hs (g2 pc (by omega) (by omega));omega
theorem zS {P:Program} {fn:Func} {p q:Tmp} {ty tz:TypeId} (h:fn.results=#[.cell p ty,.cell q tz]) (tmps:Array Value) (w:World) (g g':Nat) (t t':TypeId) (cs cs':Array Value) (fr fr':Nat × Nat) (d d':TypeDesc)
  (hp:tmps.getD p undef=.pointer (some ⟨g,0,none⟩)) (hg:w.heap[g]?=some (.cells cs t fr))
  (hu:P.underlying ty=some d) (hd:(match d with | .struct _ | .array _ _=>true|_=>false)=true) (hi:(P.info? ty).map (·.size)=some cs.size)
  (hp2:tmps.getD q undef=.pointer (some ⟨g',0,none⟩)) (hg2:w.heap[g']?=some (.cells cs' t' fr'))
  (hu2:P.underlying tz=some d') (hd2:(match d' with | .struct _ | .array _ _=>true|_=>false)=true) (hi2:(P.info? tz).map (·.size)=some cs'.size) :
  (results fn tmps).run P w=.ok (.tuple #[.agg cs,.agg cs']) w:=by
 have hp':tmps[p]?.getD undef=.pointer (some ⟨g,0,none⟩):=by simpa using hp
 have hp2':tmps[q]?.getD undef=.pointer (some ⟨g',0,none⟩):=by simpa using hp2
 simp [results,h,hp',hp2',asAddr,run_loadVar_row w g t ty cs fr d hg hu hd hi,run_loadVar_row w g' t' tz cs' fr' d' hg2 hu2 hd2 hi2,Result.andThen]
variable {o:Obj}
theorem othB {p:Addr} (h:w.heap[k]?=some o) (hne:p.block≠k) (u:Value):(w.setCell p u).heap[k]?=some o:=by
 rw [zzl _ _ _ _ hne.symm];exact h
variable {t t2:TypeId} {a0 a1 a2 a3 a4 a5 a6 d:Value}
theorem set7 (x0 x1 x2 x3 x4 x5 x6:Value) (h:w.heap[g]?=some (.cells #[a0,a1,a2,a3,a4,a5,a6] t (0,0))):
  ((((((((w.setCell ⟨g,0,none⟩ x0).setCell ⟨g,1,none⟩ x1).setCell ⟨g,2,none⟩ x2).setCell ⟨g,3,none⟩ x3).setCell ⟨g,4,none⟩ x4).setCell ⟨g,5,none⟩ x5).setCell ⟨g,6,none⟩ x6)).heap[g]?=some (.cells #[x0,x1,x2,x3,x4,x5,x6] t (0,0)):=by
 have h0:=zzs w g 0 _ t x0 h;have h1:=zzs _ g 1 _ t x1 h0;have h2:=zzs _ g 2 _ t x2 h1;have h3:=zzs _ g 3 _ t x3 h2;have h4:=zzs _ g 4 _ t x4 h3;have h5:=zzs _ g 5 _ t x5 h4;have h6:=zzs _ g 6 _ t x6 h5;rw [h6];rfl
theorem oth7 (h:w.heap[k]?=some o) (hne:g≠k) (x0 x1 x2 x3 x4 x5 x6:Value):
  ((((((((w.setCell ⟨g,0,none⟩ x0).setCell ⟨g,1,none⟩ x1).setCell ⟨g,2,none⟩ x2).setCell ⟨g,3,none⟩ x3).setCell ⟨g,4,none⟩ x4).setCell ⟨g,5,none⟩ x5).setCell ⟨g,6,none⟩ x6)).heap[k]?=some o:=
 othB (othB (othB (othB (othB (othB (othB h hne x0) hne x1) hne x2) hne x3) hne x4) hne x5) hne x6
theorem oth3 (h:w.heap[k]?=some o) (hne:g≠k) (p q r:Value):
  ((((w.setCell ⟨g,0,none⟩ p).setCell ⟨g,1,none⟩ q).setCell ⟨g,2,none⟩ r)).heap[k]?=some o:=othB (othB (othB h hne p) hne q) hne r
theorem bl7 (f:Bl w0 w) (hg:w0.heap.size≤g) (x0 x1 x2 x3 x4 x5 x6:Value):Bl w0 (((((((w.setCell ⟨g,0,none⟩ x0).setCell ⟨g,1,none⟩ x1).setCell ⟨g,2,none⟩ x2).setCell ⟨g,3,none⟩ x3).setCell ⟨g,4,none⟩ x4).setCell ⟨g,5,none⟩ x5).setCell ⟨g,6,none⟩ x6):=
 ((((((f.set (p:=⟨g,0,none⟩) hg x0).set (p:=⟨g,1,none⟩) hg x1).set (p:=⟨g,2,none⟩) hg x2).set (p:=⟨g,3,none⟩) hg x3).set (p:=⟨g,4,none⟩) hg x4).set (p:=⟨g,5,none⟩) hg x5).set (p:=⟨g,6,none⟩) hg x6
theorem bl3 (f:Bl w0 w) (hg:w0.heap.size≤g) (p q r:Value):Bl w0 (((w.setCell ⟨g,0,none⟩ p).setCell ⟨g,1,none⟩ q).setCell ⟨g,2,none⟩ r):=
 ((f.set (p:=⟨g,0,none⟩) hg p).set (p:=⟨g,1,none⟩) hg q).set (p:=⟨g,2,none⟩) hg r
theorem zBs {c e:Value} (hne:g≠g2) (h:w.heap[g]?=some (.cells #[a0,a1,a2,a3,a4,a5,a6] t (0,0))) (h2:w.heap[g2]?=some (.cells #[c,d,e] t2 (0,0)))
 (x0 x1 x2 x3 x4 x5 x6 p q r:Value) (f:Bl w0 w) (hg:w0.heap.size≤g) (hg2:w0.heap.size≤g2):
  (((((((((((w.setCell ⟨g,0,none⟩ x0).setCell ⟨g,1,none⟩ x1).setCell ⟨g,2,none⟩ x2).setCell ⟨g,3,none⟩ x3).setCell ⟨g,4,none⟩ x4).setCell ⟨g,5,none⟩ x5).setCell ⟨g,6,none⟩ x6).setCell ⟨g2,0,none⟩ p).setCell ⟨g2,1,none⟩ q).setCell ⟨g2,2,none⟩ r)).heap[g]?=some (.cells #[x0,x1,x2,x3,x4,x5,x6] t (0,0)) ∧
  (((((((((((w.setCell ⟨g,0,none⟩ x0).setCell ⟨g,1,none⟩ x1).setCell ⟨g,2,none⟩ x2).setCell ⟨g,3,none⟩ x3).setCell ⟨g,4,none⟩ x4).setCell ⟨g,5,none⟩ x5).setCell ⟨g,6,none⟩ x6).setCell ⟨g2,0,none⟩ p).setCell ⟨g2,1,none⟩ q).setCell ⟨g2,2,none⟩ r)).heap[g2]?=some (.cells #[p,q,r] t2 (0,0))∧Bl w0 ((((((((((w.setCell ⟨g,0,none⟩ x0).setCell ⟨g,1,none⟩ x1).setCell ⟨g,2,none⟩ x2).setCell ⟨g,3,none⟩ x3).setCell ⟨g,4,none⟩ x4).setCell ⟨g,5,none⟩ x5).setCell ⟨g,6,none⟩ x6).setCell ⟨g2,0,none⟩ p).setCell ⟨g2,1,none⟩ q).setCell ⟨g2,2,none⟩ r):=
 ⟨oth3 (set7 x0 x1 x2 x3 x4 x5 x6 h) (fun e=>hne e.symm) p q r,set3 p q r (oth7 h2 hne x0 x1 x2 x3 x4 x5 x6),bl3 (bl7 f hg x0 x1 x2 x3 x4 x5 x6) hg2 p q r⟩
theorem zEw {c e:Value} (hne:g≠g2) (h:w.heap[g]?=some (.cells #[a0,a1,a2,a3,a4,a5,a6] t (0,0))) (h2:w.heap[g2]?=some (.cells #[c,d,e] t2 (0,0)))
 (x0 x1 x2 x3 x4 x5 x6 p q r:Value) (f:Bl w0 w) (hg:w0.heap.size≤g) (hg2:w0.heap.size≤g2):
  (((((((((((w.setCell ⟨g2,0,none⟩ p).setCell ⟨g2,1,none⟩ q).setCell ⟨g2,2,none⟩ r).setCell ⟨g,0,none⟩ x0).setCell ⟨g,1,none⟩ x1).setCell ⟨g,2,none⟩ x2).setCell ⟨g,3,none⟩ x3).setCell ⟨g,4,none⟩ x4).setCell ⟨g,5,none⟩ x5).setCell ⟨g,6,none⟩ x6)).heap[g]?=some (.cells #[x0,x1,x2,x3,x4,x5,x6] t (0,0)) ∧
  (((((((((((w.setCell ⟨g2,0,none⟩ p).setCell ⟨g2,1,none⟩ q).setCell ⟨g2,2,none⟩ r).setCell ⟨g,0,none⟩ x0).setCell ⟨g,1,none⟩ x1).setCell ⟨g,2,none⟩ x2).setCell ⟨g,3,none⟩ x3).setCell ⟨g,4,none⟩ x4).setCell ⟨g,5,none⟩ x5).setCell ⟨g,6,none⟩ x6)).heap[g2]?=some (.cells #[p,q,r] t2 (0,0))∧Bl w0 ((((((((((w.setCell ⟨g2,0,none⟩ p).setCell ⟨g2,1,none⟩ q).setCell ⟨g2,2,none⟩ r).setCell ⟨g,0,none⟩ x0).setCell ⟨g,1,none⟩ x1).setCell ⟨g,2,none⟩ x2).setCell ⟨g,3,none⟩ x3).setCell ⟨g,4,none⟩ x4).setCell ⟨g,5,none⟩ x5).setCell ⟨g,6,none⟩ x6):=
 ⟨set7 x0 x1 x2 x3 x4 x5 x6 (oth3 h (fun e=>hne e.symm) p q r),oth7 (set3 p q r h2) hne x0 x1 x2 x3 x4 x5 x6,bl7 (bl3 f hg2 p q r) hg x0 x1 x2 x3 x4 x5 x6⟩
theorem zBz (y:Nat) (w:World) (hy:y<4294967296) (hT:Td.zBk w) :
  Calls prog 123 #[.int .u32 (y:Int)] w fun e w'=>e=.returned (.tuple #[.agg (zCs y).cells,.bool (okOf y)])∧Bl w w':=by
 have hc:IntKind.u16.wrap (y:Int)=((y%65536:Nat):Int):=by rw [IntKind.wrap_u16];omega
 have HT1:=hid hT;have HC2:Hid ((y:Int)%65536=((y%65536:Nat):Int)):=hid (by omega);by_cases h4:y%4=3
 ·rw [zDR h4,zEE h4];have hn:=fun W=>Td.short_no (y%65536) W (by omega) (by simp only [bne_eq_false_iff_eq];omega)
  have hd:=fun W hW=>Td.decode_any y W hy hW
  obtain ⟨⟨a0,a1,a2,a3,a4,a5,a6⟩,hE⟩:∃ i:Td.Ins,Td.dec y=i:=⟨_,rfl⟩;simp only [hE] at hd ⊢;unfold Td.Ins.cells at *;generalize decide (Td.opW y≠0)=ok at *;have HN:=hid hn;clear hn;have HD:=hid hd;clear hd h4 hT hE;have HC:=hid hc;clear hc;go_enter func123,ntmps123;go_wp2_with fail;rw [HC.out];with_reducible refine (HN.out _).mono ?_
  rintro e w1 ⟨rfl,k1⟩;have K1:=hid ((Bl.new w (.cells (Td.I7 0 0 0 0 0 0 0) 38)).trans k1.bl);have HB:=hid (k1.bl.at_ (zzn w (.cells (Td.I7 0 0 0 0 0 0 0) 38)));clear k1;go_wp2_with fail;with_reducible refine (HD.out _ (HT1.out.bl K1.out).i).mono ?_
  rintro e w2 ⟨rfl,k2⟩;have K2:=hid (K1.out.trans k2.bl);have HB2:=hid (k2.bl.at_ HB.out);clear k2 HB;have hb:=HB2.out;have hcells:∀ j,w2.cell? ⟨w.heap.size,j,none⟩=(Td.I7 0 0 0 0 0 0 0)[j]?:=fun j=>by simp [World.cell?,hb]
  have hfz:∀ j,w2.frozen? ⟨w.heap.size,j,none⟩=false:=fun j=>by simp [World.frozen?,hb]
  obtain ⟨d0,d1,d2,d3,d4,d5,d6⟩:=(⟨hcells 0,hcells 1,hcells 2,hcells 3,hcells 4,hcells 5,hcells 6⟩:_∧_∧_∧_∧_∧_∧_);obtain ⟨z0,z1,z2,z3,z4,z5,z6⟩:=(⟨hfz 0,hfz 1,hfz 2,hfz 3,hfz 4,hfz 5,hfz 6⟩:_∧_∧_∧_∧_∧_∧_);clear hb hcells hfz;go_wp2_with fail;refine zzb (zk rfl _ _ w.heap.size 38 _ (0,0) _ rfl (set7 _ _ _ _ _ _ _ HB2.out) underlying38 rfl (by kernel_rfl)) rfl ?_;exact ⟨rfl,bl7 K2.out (zzr _) _ _ _ _ _ _ _⟩
 ·rw [zDu h4,zEU h4];have hn:=fun W=>Td.short_yes (y%65536) W (by omega) (by simp only [bne_iff_ne,ne_eq];omega)
  have hd:=fun W hW=>Td.expand_any (y%65536) W (by omega) hW
  obtain ⟨⟨a0,a1,a2,a3,a4,a5,a6⟩,hE⟩:∃ i:Td.Ins,Td.exI (y%65536)=i.cells:=⟨_,(zDu h4).symm⟩;unfold Td.Ins.cells at *;rw [hE] at hd ⊢;generalize Td.exB (y%65536)=ok at *;have HN:=hid hn;clear hn;have HD:=hid hd;clear hd h4 hE hT;have HC:=hid hc;clear hc;go_enter func123,ntmps123;go_wp2_with fail;rw [HC.out];with_reducible refine (HN.out _).mono ?_
  rintro e w1 ⟨rfl,k1⟩;have K1:=hid ((Bl.new w (.cells (Td.I7 0 0 0 0 0 0 0) 38)).trans k1.bl);have HB:=hid (k1.bl.at_ (zzn w (.cells (Td.I7 0 0 0 0 0 0 0) 38)));clear k1;go_wp2_with fail;rw [HC2.out];with_reducible refine (HD.out _ (HT1.out.bl K1.out).c).mono ?_
  rintro e w2 ⟨rfl,k2⟩;have K2:=hid (K1.out.trans k2.bl);have HB2:=hid (k2.bl.at_ HB.out);clear k2 HB;have hb:=HB2.out;have hcells:∀ j,w2.cell? ⟨w.heap.size,j,none⟩=(Td.I7 0 0 0 0 0 0 0)[j]?:=fun j=>by simp [World.cell?,hb]
  have hfz:∀ j,w2.frozen? ⟨w.heap.size,j,none⟩=false:=fun j=>by simp [World.frozen?,hb]
  obtain ⟨d0,d1,d2,d3,d4,d5,d6⟩:=(⟨hcells 0,hcells 1,hcells 2,hcells 3,hcells 4,hcells 5,hcells 6⟩:_∧_∧_∧_∧_∧_∧_);obtain ⟨z0,z1,z2,z3,z4,z5,z6⟩:=(⟨hfz 0,hfz 1,hfz 2,hfz 3,hfz 4,hfz 5,hfz 6⟩:_∧_∧_∧_∧_∧_∧_);clear hb hcells hfz;go_wp2_with fail;refine zzb (zk rfl _ _ w.heap.size 38 _ (0,0) _ rfl (set7 _ _ _ _ _ _ _ HB2.out) underlying38 rfl (by kernel_rfl)) rfl ?_;exact ⟨rfl,bl7 K2.out (zzr _) _ _ _ _ _ _ _⟩
theorem zI (h:w.heap[b]?=some (.cells #[a0,a1,a2,a3,a4,a5,a6] t (0,0))):
  w.cell? ⟨b,0,none⟩=some a0∧w.cell? ⟨b,1,none⟩=some a1∧w.cell? ⟨b,2,none⟩=some a2∧w.cell? ⟨b,3,none⟩=some a3∧w.cell? ⟨b,4,none⟩=some a4∧w.cell? ⟨b,5,none⟩=some a5∧w.cell? ⟨b,6,none⟩=some a6:=by
 refine ⟨?_,?_,?_,?_,?_,?_,?_⟩<;>simp [World.cell?,h]
theorem zD (h:w.heap[b]?=some (.cells #[a0,a1,a2] t (0,0))):
  w.cell? ⟨b,0,none⟩=some a0∧w.cell? ⟨b,1,none⟩=some a1∧w.cell? ⟨b,2,none⟩=some a2:=by
 refine ⟨?_,?_,?_⟩<;>simp [World.cell?,h]
variable {cs:Array Value}
theorem free_at (h:w.heap[b]?=some (.cells cs t (0,0))) (i:Nat):w.frozen? ⟨b,i,none⟩=false:=by simp [World.frozen?,h]
theorem zU (h:w.heap[b]?=some o):w.drew.heap[b]?=some o:=h
theorem zJT {pc:Nat} {y k x:Int} (hk:¬ k=0):zEM pc y k x=⟨Td.zDh,4,k,x⟩:=if_neg hk
theorem zGO {pc:Nat} {x:Int} (h:okOf y=false):zEM pc (y:Int) 0 x=⟨Td.zDh,3,3,pc⟩:=by
 unfold zEM;rw [if_pos rfl,if_neg (by simp [h])]
theorem zHd {pc:Nat} {x:Int} (h:okOf y=true):zEM pc (y:Int) 0 x=⟨zCs y,0,0,0⟩:=by
 unfold zEM;rw [if_pos rfl,if_pos (by simpa using h)]
 rfl
variable {ba en fa fk mo:Int}
theorem zGI {T:Nat → Prop} {M st:Nat → Int} (h:MS T w sb n L M st mo ba en) (hT:Td.zBk w) (pc:Nat) (hpc:pc < 2 ^ 64):
    Calls prog 75 #[zB sb,.int .u64 (pc:Int)] w fun e w'=>∃ A,zBl L M pc A∧e = .returned A.v∧Bl w w':=by
  have cf:=fun W (k:Bl w W)=>fetch_is (h.bl k) pc hpc
  have CF:=hid cf;clear cf
  have HBY:=hid h.by_;clear h
  have CI:=hid (fun y W hy hW=>zBz y W hy hW)
  have HT:=hid hT;clear hT
  have hpcI:(pc:Int) ≤ 18446744073709551615:=by omega
  have K0:=hid ((Bl.new w (.cells (Td.I7 0 0 0 0 0 0 0) 38)).alloc (.cells #[.int .i64 0,.int .i64 0,.int .u64 0] 33))
  have A0:=hid ((Bl.new (w.alloc (.cells (Td.I7 0 0 0 0 0 0 0) 38)) (.cells #[.int .i64 0,.int .i64 0,.int .u64 0] 33)).at_ (zzn w (.cells (Td.I7 0 0 0 0 0 0 0) 38)))
  have A1:Hid (((w.alloc (.cells (Td.I7 0 0 0 0 0 0 0) 38)).alloc (.cells #[.int .i64 0,.int .i64 0,.int .u64 0] 33)).heap[w.heap.size + 1]? = some (.cells #[.int .i64 0,.int .i64 0,.int .u64 0] 33 (0,0))):=hid (by
    have:=zzn (w.alloc (.cells (Td.I7 0 0 0 0 0 0 0) 38)) (.cells #[.int .i64 0,.int .i64 0,.int .u64 0] 33)
    rw [show (w.alloc (.cells (Td.I7 0 0 0 0 0 0 0) 38)).heap.size = w.heap.size + 1 by simp] at this
    exact this)
  unfold zB at *
  go_enter func75,ntmps75
  go_wp2_with fail
  with_reducible refine (CF.out _ K0.out).mono ?_
  rintro e w1 ⟨y,k,x,rfl,hf,kk⟩
  have HF:=hid hf;clear hf
  have K1:=hid (K0.out.trans kk)
  have B0:=hid (kk.at_ A0.out)
  have B1:=hid (kk.at_ A1.out)
  clear kk CF
  unfold zt
  have hlt:w.heap.size + 1 < w1.heap.size:=zG B1.out
  by_cases hk:k = 0
  · subst hk
    obtain ⟨y0,y1⟩:=zJN HBY.out HF.out
    obtain ⟨m,rfl⟩:=zze y0
    have hm:m < 4294967296:=by omega
    have W2K:=hid (K1.out.alloc (.cells #[.int .i64 0,.int .u64 x] 31))
    have hb2:=zzn w1 (.cells #[.int .i64 0,.int .u64 x] 31)
    obtain ⟨d0,d1⟩:=zK hb2
    have C0:=hid ((Bl.new w1 (.cells #[.int .i64 0,.int .u64 x] 31)).at_ B0.out)
    have C1:=hid ((Bl.new w1 (.cells #[.int .i64 0,.int .u64 x] 31)).at_ B1.out)
    clear hb2 y0 y1
    go_wp2_with fail
    with_reducible refine (CI.out m _ hm (HT.out.bl W2K.out)).mono ?_
    rintro e w2 ⟨rfl,kk⟩
    have hsz:w1.heap.size < w2.heap.size:=by have:=kk.size;simp at this;omega
    have K2:=hid (W2K.out.trans kk)
    have E0:=hid (kk.at_ C0.out)
    have E1:=hid (kk.at_ C1.out)
    clear kk C0 C1 B0 B1 d0 d1 W2K CI
    by_cases hok:okOf m = true
    · have HA:=hid (zHd (pc:=pc) (x:=x) hok)
      rw [hok]
      obtain ⟨⟨a0,a1,a2,a3,a4,a5,a6⟩,hE⟩:∃ i:Td.Ins,zCs m = i:=⟨_,rfl⟩
      rw [hE] at HA ⊢
      unfold Td.Ins.cells
      clear hok hE
      have hb3:=zzn w2 (.cells (Td.I7 a0 a1 a2 a3 a4 a5 a6) 38)
      have K3:=hid (K2.out.alloc (.cells (Td.I7 a0 a1 a2 a3 a4 a5 a6) 38))
      have F0:=hid ((Bl.new w2 (.cells (Td.I7 a0 a1 a2 a3 a4 a5 a6) 38)).at_ E0.out)
      have F1:=hid ((Bl.new w2 (.cells (Td.I7 a0 a1 a2 a3 a4 a5 a6) 38)).at_ E1.out)
      go_upto_region 5 with (fail)
      generalize w2.alloc (.cells (Td.I7 a0 a1 a2 a3 a4 a5 a6) 38) = W at *
      obtain ⟨d0,d1,d2,d3,d4,d5,d6⟩:=zI hb3
      obtain ⟨e0,e1,e2,e3,e4,e5,e6⟩:=zI F0.out
      obtain ⟨g0,g1,g2⟩:=zD F1.out
      have z0:=free_at F0.out
      have z1:=free_at F1.out
      clear hb3
      go_wp2_with fail
      obtain ⟨s1,s2,s3⟩:=zBs (w0:=w) (g:=w.heap.size) (g2:=w.heap.size + 1) (by omega) F0.out F1.out (.int .i64 a0) (.int .i64 a1) (.int .i64 a2) (.int .i64 a3) (.int .i64 a4) (.int .i64 a5) (.int .i64 a6) (.int .i64 0) (.int .i64 0) (.int .u64 0) K3.out (by omega) (by omega)
      refine zzb (zS rfl _ _ w.heap.size (w.heap.size + 1) 38 33 _ _ (0,0) (0,0) _ _ rfl s1 underlying38 rfl (by kernel_rfl) rfl s2 underlying33 rfl (by kernel_rfl)) rfl ?_
      exact ⟨_,⟨_,_,_,HF.out,rfl⟩,by rw [HA.out];rfl,s3⟩
    · have hok:okOf m = false:=by simpa using hok
      have HA:=hid (zGO (pc:=pc) (x:=x) hok)
      rw [hok]
      obtain ⟨⟨a0,a1,a2,a3,a4,a5,a6⟩,hE⟩:∃ i:Td.Ins,zCs m = i:=⟨_,rfl⟩
      rw [hE]
      unfold Td.Ins.cells
      clear hok hE
      have hb3:=zzn w2 (.cells (Td.I7 a0 a1 a2 a3 a4 a5 a6) 38)
      have K3:=hid (K2.out.alloc (.cells (Td.I7 a0 a1 a2 a3 a4 a5 a6) 38))
      have F0:=hid ((Bl.new w2 (.cells (Td.I7 a0 a1 a2 a3 a4 a5 a6) 38)).at_ E0.out)
      have F1:=hid ((Bl.new w2 (.cells (Td.I7 a0 a1 a2 a3 a4 a5 a6) 38)).at_ E1.out)
      go_upto_region 5 with (fail)
      generalize w2.alloc (.cells (Td.I7 a0 a1 a2 a3 a4 a5 a6) 38) = W at *
      obtain ⟨e0,e1,e2,e3,e4,e5,e6⟩:=zI F0.out
      obtain ⟨g0,g1,g2⟩:=zD F1.out
      have z0:=free_at F0.out
      have z1:=free_at F1.out
      clear hb3
      go_wp2_with fail
      obtain ⟨s1,s2,s3⟩:=zBs (w0:=w) (g:=w.heap.size) (g2:=w.heap.size + 1) (by omega) F0.out F1.out (.int .i64 0) (.int .i64 0) (.int .i64 0) (.int .i64 0) (.int .i64 0) (.int .i64 0) (.int .i64 0) (.int .i64 3) (.int .i64 3) (.int .u64 (pc:Int)) K3.out (by omega) (by omega)
      refine zzb (zS rfl _ _ w.heap.size (w.heap.size + 1) 38 33 _ _ (0,0) (0,0) _ _ rfl s1 underlying38 rfl (by kernel_rfl) rfl s2 underlying33 rfl (by kernel_rfl)) rfl ?_
      exact ⟨_,⟨_,_,_,HF.out,rfl⟩,by rw [HA.out];rfl,s3⟩
  · have HA:=hid (zJT (pc:=pc) (y:=y) (x:=x) hk)
    have tk:(k != 0) = true:=by simp [hk]
    clear hk CI
    have hb2:=zzn w1 (.cells #[.int .i64 k,.int .u64 x] 31)
    have K3:=hid (K1.out.alloc (.cells #[.int .i64 k,.int .u64 x] 31))
    have F0:=hid ((Bl.new w1 (.cells #[.int .i64 k,.int .u64 x] 31)).at_ B0.out)
    have F1:=hid ((Bl.new w1 (.cells #[.int .i64 k,.int .u64 x] 31)).at_ B1.out)
    go_upto_region 2 with (fail)
    generalize w1.alloc (.cells #[.int .i64 k,.int .u64 x] 31) = W at *
    obtain ⟨d0,d1⟩:=zK hb2
    obtain ⟨e0,e1,e2,e3,e4,e5,e6⟩:=zI F0.out
    obtain ⟨g0,g1,g2⟩:=zD F1.out
    have z0:=free_at F0.out
    have z1:=free_at F1.out
    clear hb2
    go_wp2_with fail
    go_region
    all_goals (
      (try go_wp2_with fail)
      first
      | (obtain ⟨s1,s2,s3⟩:=zBs (w0:=w) (g:=w.heap.size) (g2:=w.heap.size + 1) (by omega) F0.out F1.out (.int .i64 0) (.int .i64 0) (.int .i64 0) (.int .i64 0) (.int .i64 0) (.int .i64 0) (.int .i64 0) (.int .i64 4) (.int .i64 k) (.int .u64 x) K3.out (by omega) (by omega)
         refine zzb (zS rfl _ _ w.heap.size (w.heap.size + 1) 38 33 _ _ (0,0) (0,0) _ _ rfl (zU s1) underlying38 rfl (by kernel_rfl) rfl (zU s2) underlying33 rfl (by kernel_rfl)) rfl ?_
         exact ⟨_,⟨_,_,_,HF.out,rfl⟩,by rw [HA.out];rfl,s3.drew⟩)
      | (obtain ⟨s1,s2,s3⟩:=zEw (w0:=w) (g:=w.heap.size) (g2:=w.heap.size + 1) (by omega) F0.out F1.out (.int .i64 0) (.int .i64 0) (.int .i64 0) (.int .i64 0) (.int .i64 0) (.int .i64 0) (.int .i64 0) (.int .i64 4) (.int .i64 k) (.int .u64 x) K3.out (by omega) (by omega)
         refine zzb (zS rfl _ _ w.heap.size (w.heap.size + 1) 38 33 _ _ (0,0) (0,0) _ _ rfl (zU s1) underlying38 rfl (by kernel_rfl) rfl (zU s2) underlying33 rfl (by kernel_rfl)) rfl ?_
         exact ⟨_,⟨_,_,_,HF.out,rfl⟩,by rw [HA.out];rfl,s3.drew⟩))
structure Ent where
 i:Td.Ins
 sb:Nat
 f:Int
 l:Int
def Ent.v (e:Ent):Value:=.agg #[.int .i64 e.i.op,.int .i64 e.i.rd,.int .i64 e.i.r1,.int .i64 e.i.r2,.int .i64 e.i.im,.int .i64 e.i.od,.int .i64 e.i.sz,.pointer (some ⟨e.sb,0,none⟩),.int .u64 e.f,.int .u64 e.l]
def zER:Value:=.agg #[.int .i64 0,.int .i64 0,.int .i64 0,.int .i64 0,.int .i64 0,.int .i64 0,.int .i64 0,.pointer none,.int .u64 0,.int .u64 0]
def entV (x:Option Ent):Value:=match x with|some e=>e.v|none=>zER
def rawE (v:Value):Option (DataW Value × List MemPlace):=some (.held v,[])
theorem zJZ (w:World):(zeroValue 177).run prog w=.ok zER w:=by kernel_rfl
def putE (g:Nat→Option Ent) (p:Nat) (x:Option Ent):Nat→Option Ent:=fun q=>if q=p then x else g q
theorem zCa (g:Nat→Option Ent) (p:Nat) (x:Option Ent):putE g p x p=x:=by simp [putE]
theorem zBq (g:Nat→Option Ent) (p:Nat) (x:Option Ent) (h:q≠p):putE g p x q=g q:=by simp [putE,h]
def zIB:Nat→Option Ent:=fun _=>none
def CM (w:World) (B:Nat) (g:Nat→Option Ent) (k:Nat):Prop:=
 ∃ D,w.ownsMap prog 29 rawE B k D∧(∀ p zd,p<2^64→D.atKey (key p) zd=(match g p with|some e=>.held e.v|none=>zd))∧(∀ p,p<2^64→Maps.has D (key p)=(g p).isSome)∧Maps.size D=k
theorem zED {H:Type} {P:Program} {R:Value→Option (DataW H × List MemPlace)} {D:DataW H} (h:w.ownsMap P t R b n D):w.ownsMap P t R b (Maps.size D) D:=by
 obtain ⟨es,clock,hb,F,hs,rfl⟩:=h;exact ⟨es,clock,hb,F,by simp [Maps.size,length_sorted],rfl⟩
section
variable {w w':World} {B k:Nat} {g:Nat→Option Ent}
theorem CM.lt (h:CM w B g k):B<w.heap.size:=by
 obtain ⟨D,h1,_⟩:=h;exact h1.lt
theorem CM.isMap (h:CM w B g k):∃ es c,w.heap[B]?=some (.map es c):=by
 obtain ⟨D,⟨es,c,h1,_⟩,_⟩:=h;exact ⟨es,c,h1⟩
theorem CM.of_block (h:CM w B g k) (hb:w'.heap[B]?=w.heap[B]?):CM w' B g k:=by
 obtain ⟨D,h1,h2⟩:=h;exact ⟨D,zBG h1 hb,h2⟩
theorem CM.made (w:World):CM (w.alloc (.map #[] 0)) w.heap.size zIB 0:=
 ⟨_,World.ownsMap_made w prog 29 rawE,fun _ _ _=>rfl,fun _ _=>rfl,rfl⟩
theorem CM.look (h:CM w B g k) {p:Nat} (hp:p<2^64) :
  (Instr.lookup 116 (.map (some B)) (.int .u64 (p:Int)) true).run prog w=.ok (.tuple #[entV (g p),.bool (g p).isSome]) w:=by
 obtain ⟨D,h1,h2,h3,_⟩:=h;obtain ⟨v,ps,hrun,hv⟩:=h1.look_ok zDZ underlying116 (zJZ w) (zd:=.held zER) (zp:=[]) rfl (zCy hp);rw [hrun,h3 p hp];have e:v=entV (g p):=by
  unfold rawE at hv;injection hv with hv;injection hv with hv _;rw [h2 p _ hp] at hv;cases hg:g p with
  | none=>rw [hg] at hv;simp only [DataW.held.injEq] at hv;rw [hv];rfl
  | some x=>rw [hg] at hv;simp only [DataW.held.injEq] at hv;rw [hv];rfl
 rw [e]
theorem CM.len (h:CM w B g k) (ty:TypeId):(Builtin.len_ #[116] ty #[.map (some B)]).run prog w=.ok (.int .i64 (k:Int)) w:=by
 obtain ⟨D,h1,_,_,rfl⟩:=h;exact h1.len underlying116 ty
theorem CM.put (h:CM w B g k) {p:Nat} (hp:p<2^64) (hk:k≤100000) (x:Ent) :
  ∃ w',(Instr.mapUpdate 116 (.map (some B)) (.int .u64 (p:Int)) x.v).run prog w=.ok () w'∧CM w' B (putE g p (some x)) (if (g p).isSome then k else k+1)∧w.mapTurned w' B:=by
 obtain ⟨D,h1,h2,h3,h4⟩:=h;obtain ⟨w',hrun,ho,ht⟩:=h1.store zDZ underlying116 (by simp only [maxLen];omega) (zCy hp) (show rawE x.v=some (.held x.v,[]) from rfl);have hsz:Maps.size (D.put (key p) (.held x.v))=if (g p).isSome then k else k+1:=by rw [Maps.size_put (h1.tidy zDZ),h3 p hp,h4]
 refine ⟨w',hrun,⟨_,by rw [← hsz];exact zED ho,fun q zd hq=>?_,fun q hq=>?_,hsz⟩,ht⟩
 ·by_cases e:q=p
  ·subst e;rw [zCa];exact Maps.atKey_put_same h1.isMap (zBN _) _ _
  ·rw [zBq _ _ _ e,Maps.atKey_put_other (zDg e)];exact h2 q zd hq
 ·by_cases e:q=p
  ·subst e;rw [zCa];exact Maps.has_put_same h1.isMap (zBN _) _
  ·rw [zBq _ _ _ e,Maps.has_put_other (zDg e)];exact h3 q hq
theorem CM.del (h:CM w B g k) {p:Nat} (hp:p<2^64) (ty:TypeId) :
  ∃ w',(Builtin.delete_ #[116,29] ty #[.map (some B),.int .u64 (p:Int)]).run prog w=.ok (.tuple #[]) w'∧(∃ k',CM w' B (putE g p none) k'∧k'≤k)∧w.mapTurned w' B:=by
 obtain ⟨D,h1,h2,h3,h4⟩:=h;obtain ⟨w2,hrun,ho,ht⟩:=h1.drop zDZ underlying116 (zCy hp) ty;have hle:Maps.size (D.del (key p))≤k:=by
  have:=Maps.size_del (k:=key p) (h1.tidy zDZ)
  rw [h4] at this;omega
 refine ⟨w2,hrun,⟨_,⟨_,zED ho,fun q zd hq=>?_,fun q hq=>?_,rfl⟩,hle⟩,ht⟩
 ·by_cases e:q=p
  ·subst e;rw [zCa];exact Maps.atKey_del_same _
  ·rw [zBq _ _ _ e,Maps.atKey_del_other (zDg e)];exact h2 q zd hq
 ·by_cases e:q=p
  ·subst e;rw [zCa];exact Maps.has_del_same
  ·rw [zBq _ _ _ e,Maps.has_del_other (zDg e)];exact h3 q hq
theorem CM.clear (h:CM w B g k) (ty:TypeId) :
  ∃ w',(Builtin.clear_ #[116] ty #[.map (some B)]).run prog w=.ok (.tuple #[]) w'∧CM w' B zIB 0∧w.mapTurned w' B:=by
 obtain ⟨D,⟨es,clock,hb,F,hs,rfl⟩,_⟩:=h;refine ⟨_,by simp [Builtin.clear_,run_underlying underlying116,MapKept.run_getObj_map hb,MapKept.run_setObj_map _ hb,Result.andThen];rfl,⟨.map [],⟨#[],clock,ChangeMaps.heap_setBlock_same hb _,⟨by simp,MapKept.stamped_empty clock,by simp⟩,zzr _,rfl⟩,fun _ _ _=>rfl,fun _ _=>rfl,rfl⟩,⟨es,clock,#[],clock,hb,rfl⟩⟩
end
theorem Fr.turned {a b:World} (h:a.mapTurned b B):Fr (only B) a b:=Fr.grown h.grown fun k hk=>by injection hk with hk;exact hk.symm
structure CA (w:World) (cb B:Nat) (g:Nat→Option Ent) (k:Nat):Prop where
 blk:w.heap[cb]?=some (.cells #[.map (some B)] 118 (0,0))
 map:CM w B g k
def COff (w:World) (cb:Nat):Prop:=w.heap[cb]?=some (.cells #[.map none] 118 (0,0))
section
variable {w w':World} {cb B k:Nat} {g g':Nat→Option Ent}
theorem CA.ne (h:CA w cb B g k):cb≠B:=fun e=>by
 obtain ⟨es,c,h1⟩:=h.map.isMap;have h2:=h.blk;rw [e,h1] at h2;cases h2
theorem CA.bl (h:CA w cb B g k) (f:Bl w w'):CA w' cb B g k:=⟨f.at_ h.blk,h.map.of_block (f.block _ h.map.lt)⟩
theorem CA.fr (h:CA w cb B g k) (f:Fr S w w') (h1:¬ S cb) (h2:¬ S B):CA w' cb B g k:=⟨f.at_ h.blk h1,h.map.of_block (f.block _ h.map.lt h2)⟩
theorem CA.turned (h:CA w cb B g k) {k':Nat} (m:CM w' B g' k') (t:w.mapTurned w' B):CA w' cb B g' k':=⟨(Fr.turned t).at_ h.blk h.ne,m⟩
theorem CA.cell (h:CA w cb B g k):w.cell? ⟨cb,0,none⟩=some (.map (some B)):=by simp [World.cell?,h.blk]
theorem COff.bl (h:COff w cb) (f:Bl w w'):COff w' cb:=f.at_ h
theorem COff.fr (h:COff w cb) (f:Fr S w w') (h1:¬ S cb):COff w' cb:=Fr.at_ f h h1
theorem COff.cell (h:COff w cb):w.cell? ⟨cb,0,none⟩=some (.map none):=by
 have h':w.heap[cb]?=some (.cells #[.map none] 118 (0,0)):=h;simp [World.cell?,h']
theorem makeC (w:World):(Instr.makeMap 116 none).run prog w=.ok (.map (some w.heap.size)) (w.alloc (.map #[] 0)):=by
 have hu:=run_underlying (P:=prog) underlying116 w;simp [Instr.makeMap,hu,Result.andThen]
theorem cnew_on (w:World):Calls prog 29 #[.bool true] w fun e w'=>e=.returned (zB (w.heap.size+1))∧CA w' (w.heap.size+1) w.heap.size zIB 0∧Bl w w'∧w'.heap.size=w.heap.size+2:=by
 have hmk:=makeC w;unfold zB;go_enter func29,ntmps29;go_wp2;go_ret;refine ⟨rfl,⟨?_,(CM.made w).of_block ((Bl.new _ _).block _ (by simp))⟩,(Bl.new _ _).alloc _,by simp⟩
 have:=zzn (w.alloc (.map #[] 0)) (.cells #[.map (some w.heap.size)] 118)
 rw [show (w.alloc (.map #[] 0)).heap.size=w.heap.size+1 by simp] at this;exact this
theorem cnew_off (w:World):Calls prog 29 #[.bool false] w fun e w'=>e=.returned (zB w.heap.size)∧COff w' w.heap.size∧Bl w w'∧w'.heap.size=w.heap.size+1:=by
 unfold zB;go_enter func29,ntmps29;go_wp2;go_ret;exact ⟨rfl,zzn w _,Bl.new _ _,by simp⟩
theorem cclear_on (h:CA w cb B g k):Calls prog 124 #[zB cb] w fun e w'=>e=.returned (.tuple #[])∧CA w' cb B zIB 0∧Fr (only B) w w':=by
 obtain ⟨w1,hrun,hm,ht⟩:=h.map.clear 0;have c0:=h.cell;have HC:=hid (h.turned hm ht);have HT:=hid (Fr.turned ht);clear h hm ht;unfold zB;go_enter func124,ntmps124;go_wp2
 go_end0
 exact ⟨rfl,HC.out,HT.out⟩
end
theorem zGf (h:MS T w sb n L M st mo ba en) (pc:Nat) (sz:Int) (hpc:pc<274877906944) (hs:sz=2∨sz=4):
  Calls prog 121 #[zB sb,.int .u64 (pc:Int),.int .i64 sz] w fun e w'=>e=.returned (.agg #[zB sb,.int .u64 (st (pc/4096)),.int .u64 (st ((pc+sz.toNat - 1)/4096))])∧Bl w w':=by
 obtain ⟨m,hm1,hm2⟩:∃ m,m=(pc+sz.toNat - 1)/4096∧((pc:Int)+sz - 1)/4096=(m:Int):=⟨_,rfl,by rcases hs with rfl|rfl<;>simp<;>omega⟩;have hp1:(pc:Int)/4096=((pc/4096:Nat):Int):=by omega
 rw [← hm1];have c1:=fun W (k:Bl w W)=>zGs (h.bl k) (pc/4096) (by omega)
 have c2:=fun W (k:Bl w W)=>zGs (h.bl k) m (by omega)
 have C1:=hid c1;clear c1;have C2:=hid c2;clear c2 h hm1;have HM:=hid hm2;clear hm2;have HP:=hid hp1;clear hp1;have hpcI:(pc:Int)<274877906944:=by omega
 have hs0:2≤sz∧sz≤4:=by omega
 obtain ⟨s0,s1⟩:=hs0;clear hs;generalize st (pc/4096)=v1 at *;generalize st m=v2 at *;have hb:=zzn w (.cells #[.pointer none,.int .u64 0,.int .u64 0] 175);have K:=hid (Bl.new w (.cells #[.pointer none,.int .u64 0,.int .u64 0] 175));have HB:=hid hb;clear hb;unfold zB at *;go_enter func121,ntmps121;go_upto_region 2 with (fail);generalize w.alloc (.cells #[.pointer none,.int .u64 0,.int .u64 0] 175)=W at *;go_wp2_with fail;rw [HP.out];with_reducible refine (C1.out _ K.out).mono ?_
 rintro e w1 ⟨rfl,rfl⟩;go_wp2_with fail;rw [HM.out];with_reducible refine (C2.out _ K.out).mono ?_
 rintro e w1 ⟨rfl,rfl⟩;obtain ⟨g0,g1,g2⟩:=zD HB.out;have z0:=free_at HB.out;go_wp2_with fail;refine zzb (results_cell_row rfl _ _ w.heap.size 175 _ (0,0) _ rfl (set3 _ _ _ HB.out) underlying175 rfl (by kernel_rfl)) rfl ?_;exact ⟨rfl,bl3 K.out (zzr _) _ _ _⟩
theorem ptr_eql {a:Nat} (ha:∃ cs t,w.heap[a]?=some (.cells cs t (0,0))) (hb:∃ cs t,w.heap[b]?=some (.cells cs t (0,0))) (n:Nat):(Op.equalIn (n+1) 55 (.pointer (some ⟨a,0,none⟩)) (.pointer (some ⟨b,0,none⟩))).run prog w=.ok (decide (a=b)) w:=by
 have hu:=run_underlying (P:=prog) underlying55 w;obtain ⟨ca,ta,ha⟩:=ha;obtain ⟨cb,tb,hb⟩:=hb;by_cases h:a=b
 ·subst h;have hs:=run_sameAddr_same (P:=prog) (w:=w) ⟨a,0,none⟩;simp [Op.equalIn,hu,Result.andThen,hs]
 ·have hs:=run_sameAddr_other (P:=prog) (w:=w) (a:=⟨a,0,none⟩) (b:=⟨b,0,none⟩) (fun e=>h (by injection e)) ha hb;simp [Op.equalIn,hu,Result.andThen,hs,h]
theorem MS.block_ (h:MS T w sb n L M st mo ba en):∃ cs t,w.heap[sb]?=some (.cells cs t (0,0)):=by
 obtain ⟨rg,f,k0,⟨pm,sm,c,l,h1⟩,h2,h3⟩:=h.ex;exact ⟨_,_,h1.blk⟩
theorem ten_at {a7 a8 a9:Value} (h:w.heap[b]?=some (.cells #[a0,a1,a2,a3,a4,a5,a6,a7,a8,a9] t (0,0))):
  w.cell? ⟨b,0,none⟩=some a0∧w.cell? ⟨b,1,none⟩=some a1∧w.cell? ⟨b,2,none⟩=some a2∧w.cell? ⟨b,3,none⟩=some a3∧w.cell? ⟨b,4,none⟩=some a4∧w.cell? ⟨b,5,none⟩=some a5∧w.cell? ⟨b,6,none⟩=some a6∧w.cell? ⟨b,7,none⟩=some a7∧w.cell? ⟨b,8,none⟩=some a8∧w.cell? ⟨b,9,none⟩=some a9:=by
 refine ⟨?_,?_,?_,?_,?_,?_,?_,?_,?_,?_⟩<;>simp [World.cell?,h]
theorem zBB (w:World) (o o':Obj):((w.alloc o).alloc o').heap[w.heap.size+1]?=some o':=by
 have:=zzn (w.alloc o) o'
 rw [show (w.alloc o).heap.size=w.heap.size+1 by simp] at this;exact this
theorem Fr.zH (f:Fr S w0 w) {p:Addr} (hp:w0.heap.size≤p.block) (u:Value):Fr S w0 (w.setCell p u):=
 ⟨f.os,f.tape,f.output,by simpa [World.setCell] using f.size,fun k hk hn=>by rw [zzl _ _ _ _ (by omega)];exact f.block k hk hn⟩
theorem CA.cellC {g:Nat→Option Ent} (h:CA w cb B g k) {p:Addr} (h1:cb≠p.block) (h2:B≠p.block) (u:Value):CA (w.setCell p u) cb B g k:=
 ⟨by rw [zzl _ _ _ _ h1];exact h.blk,h.map.of_block (zzl _ _ _ _ h2)⟩
section
variable {w0 w:World} {b cb B k:Nat} {g:Nat→Option Ent} {S:Nat→Prop}
theorem Fr.bl7 (f:Fr S w0 w) (hg:w0.heap.size≤b) (x0 x1 x2 x3 x4 x5 x6:Value):Fr S w0 (((((((w.setCell ⟨b,0,none⟩ x0).setCell ⟨b,1,none⟩ x1).setCell ⟨b,2,none⟩ x2).setCell ⟨b,3,none⟩ x3).setCell ⟨b,4,none⟩ x4).setCell ⟨b,5,none⟩ x5).setCell ⟨b,6,none⟩ x6):=
 ((((((f.zH (p:=⟨b,0,none⟩) hg x0).zH (p:=⟨b,1,none⟩) hg x1).zH (p:=⟨b,2,none⟩) hg x2).zH (p:=⟨b,3,none⟩) hg x3).zH (p:=⟨b,4,none⟩) hg x4).zH (p:=⟨b,5,none⟩) hg x5).zH (p:=⟨b,6,none⟩) hg x6
theorem Fr.bl3 (f:Fr S w0 w) (hg:w0.heap.size≤b) (p q r:Value):Fr S w0 (((w.setCell ⟨b,0,none⟩ p).setCell ⟨b,1,none⟩ q).setCell ⟨b,2,none⟩ r):=
 ((f.zH (p:=⟨b,0,none⟩) hg p).zH (p:=⟨b,1,none⟩) hg q).zH (p:=⟨b,2,none⟩) hg r
theorem CA.bl7 (h:CA w cb B g k) (h1:cb≠b) (h2:B≠b) (x0 x1 x2 x3 x4 x5 x6:Value):CA (((((((w.setCell ⟨b,0,none⟩ x0).setCell ⟨b,1,none⟩ x1).setCell ⟨b,2,none⟩ x2).setCell ⟨b,3,none⟩ x3).setCell ⟨b,4,none⟩ x4).setCell ⟨b,5,none⟩ x5).setCell ⟨b,6,none⟩ x6) cb B g k:=
 ((((((h.cellC (p:=⟨b,0,none⟩) h1 h2 x0).cellC (p:=⟨b,1,none⟩) h1 h2 x1).cellC (p:=⟨b,2,none⟩) h1 h2 x2).cellC (p:=⟨b,3,none⟩) h1 h2 x3).cellC (p:=⟨b,4,none⟩) h1 h2 x4).cellC (p:=⟨b,5,none⟩) h1 h2 x5).cellC (p:=⟨b,6,none⟩) h1 h2 x6
theorem CA.bl3 (h:CA w cb B g k) (h1:cb≠b) (h2:B≠b) (p q r:Value):CA (((w.setCell ⟨b,0,none⟩ p).setCell ⟨b,1,none⟩ q).setCell ⟨b,2,none⟩ r) cb B g k:=
 ((h.cellC (p:=⟨b,0,none⟩) h1 h2 p).cellC (p:=⟨b,1,none⟩) h1 h2 q).cellC (p:=⟨b,2,none⟩) h1 h2 r
end
section
variable {T:Nat→Prop} {w:World} {sb n:Nat} {L:List Rg} {M st:Nat→Int} {mo ba en:Int} {cb B k:Nat} {g:Nat→Option Ent}
def NoFind (w:World) (e:Ending) (w':World):Prop:=e=.returned (.tuple #[.agg (Td.I7 0 0 0 0 0 0 0),.bool false])∧Bl w w'
theorem find_off (h:COff w cb) (sb pc:Nat) (hpc:pc<2^64):Calls prog 74 #[zB cb,zB sb,.int .u64 (pc:Int)] w (NoFind w):=by
 have K0:=hid (Bl.new w (.cells (Td.I7 0 0 0 0 0 0 0) 38));have hlook:(Instr.lookup 116 (.map none) (.int .u64 (pc:Int)) true).run prog (w.alloc (.cells (Td.I7 0 0 0 0 0 0 0) 38))=.ok (.tuple #[zER,.bool false]) (w.alloc (.cells (Td.I7 0 0 0 0 0 0 0) 38)):=Maps.look_nil true zDZ underlying116 (zJZ _) (zCy hpc);have c0:=(h.bl K0.out).cell;have A0:=hid (zzn w (.cells (Td.I7 0 0 0 0 0 0 0) 38));clear h;unfold zER at hlook;unfold zB;go_enter func74,ntmps74;go_upto_region 4 with (fail);have A1:=hid ((Bl.new _ (.cells #[.int .i64 0,.int .i64 0,.int .i64 0,.int .i64 0,.int .i64 0,.int .i64 0,.int .i64 0,.pointer none,.int .u64 0,.int .u64 0] 177)).at_ A0.out);have K1:=hid (K0.out.alloc (.cells #[.int .i64 0,.int .i64 0,.int .i64 0,.int .i64 0,.int .i64 0,.int .i64 0,.int .i64 0,.pointer none,.int .u64 0,.int .u64 0] 177));clear hlook c0;generalize (w.alloc (.cells (Td.I7 0 0 0 0 0 0 0) 38)).alloc (.cells #[.int .i64 0,.int .i64 0,.int .i64 0,.int .i64 0,.int .i64 0,.int .i64 0,.int .i64 0,.pointer none,.int .u64 0,.int .u64 0] 177)=W at *;obtain ⟨e0,e1,e2,e3,e4,e5,e6⟩:=zI A1.out;have z0:=free_at A1.out;go_wp2;refine zzb (zk rfl _ _ w.heap.size 38 _ (0,0) _ rfl (set7 _ _ _ _ _ _ _ A1.out) underlying38 rfl (by kernel_rfl)) rfl ?_;exact ⟨rfl,bl7 K1.out (zzr _) _ _ _ _ _ _ _⟩
theorem find_none (h:CA w cb B g k) (sb pc:Nat) (hpc:pc<2^64) (hg:g pc=none):Calls prog 74 #[zB cb,zB sb,.int .u64 (pc:Int)] w (NoFind w):=by
 have hpcI:(pc:Int)≤18446744073709551615:=by omega
 have K0:=hid (Bl.new w (.cells (Td.I7 0 0 0 0 0 0 0) 38));have hlook:=(h.bl K0.out).map.look (p:=pc) (by omega);rw [hg] at hlook;have c0:=(h.bl K0.out).cell;have A0:=hid (zzn w (.cells (Td.I7 0 0 0 0 0 0 0) 38));clear h hg;simp only [entV,Option.isSome_none] at hlook;unfold zER at hlook;unfold zB;go_enter func74,ntmps74;go_upto_region 4 with (fail);have A1:=hid ((Bl.new _ (.cells #[.int .i64 0,.int .i64 0,.int .i64 0,.int .i64 0,.int .i64 0,.int .i64 0,.int .i64 0,.pointer none,.int .u64 0,.int .u64 0] 177)).at_ A0.out);have K1:=hid (K0.out.alloc (.cells #[.int .i64 0,.int .i64 0,.int .i64 0,.int .i64 0,.int .i64 0,.int .i64 0,.int .i64 0,.pointer none,.int .u64 0,.int .u64 0] 177));clear hlook c0;generalize (w.alloc (.cells (Td.I7 0 0 0 0 0 0 0) 38)).alloc (.cells #[.int .i64 0,.int .i64 0,.int .i64 0,.int .i64 0,.int .i64 0,.int .i64 0,.int .i64 0,.pointer none,.int .u64 0,.int .u64 0] 177)=W at *;obtain ⟨e0,e1,e2,e3,e4,e5,e6⟩:=zI A1.out;have z0:=free_at A1.out;go_wp2;refine zzb (zk rfl _ _ w.heap.size 38 _ (0,0) _ rfl (set7 _ _ _ _ _ _ _ A1.out) underlying38 rfl (by kernel_rfl)) rfl ?_;exact ⟨rfl,bl7 K1.out (zzr _) _ _ _ _ _ _ _⟩
def FindPost (cb B k:Nat) (g:Nat → Option Ent) (pc sb:Nat) (st:Nat → Int) (e:Ent) (w:World) (x:Ending) (w':World):Prop:=
      ((e.sb = sb∧e.f = st (pc / 4096)∧e.l = st ((pc + e.i.sz.toNat - 1) / 4096))∧x = .returned (.tuple #[.agg e.i.cells,.bool true])∧Bl w w') ∨
      (¬ (e.sb = sb∧e.f = st (pc / 4096)∧e.l = st ((pc + e.i.sz.toNat - 1) / 4096))∧x = .returned (.tuple #[.agg (Td.I7 0 0 0 0 0 0 0),.bool false])∧(∃ k',CA w' cb B (putE g pc none) k'∧k' ≤ k)∧Fr (only B) w w')
theorem find_some (h:CA w cb B g k) (hm:MS T w sb n L M st mo ba en) (pc:Nat) (hpc:pc<274877906944) (e:Ent) (hg:g pc=some e) (hs:e.i.sz=2∨e.i.sz=4) (hsb:∃ cs t,w.heap[e.sb]?=some (.cells cs t (0,0))) :
  Calls prog 74 #[zB cb,zB sb,.int .u64 (pc:Int)] w (FindPost cb B k g pc sb st e w):=by
 have hpcI:(pc:Int)≤18446744073709551615:=by omega
 have K0:=hid (Bl.new w (.cells (Td.I7 0 0 0 0 0 0 0) 38));have hlook:=(h.bl K0.out).map.look (p:=pc) (by omega);rw [hg] at hlook;have c0:=(h.bl K0.out).cell;have A0:=hid (zzn w (.cells (Td.I7 0 0 0 0 0 0 0) 38));obtain ⟨⟨a0,a1,a2,a3,a4,a5,a6⟩,b,f,l⟩:=e;simp only [entV,Option.isSome_some,Ent.v] at hlook;simp only at hs hsb;clear hg;have HSB:=hid hsb;clear hsb;have HMB:=hid hm.block_;have hne:=h.ne;have hltB:=h.map.lt;have hltC:=zG h.blk;have cs:=fun W (kk:Bl w W)=>zGf (hm.bl kk) pc a6 hpc hs
 obtain ⟨v1,hv1⟩:∃ v1,v1=st (pc/4096):=⟨_,rfl⟩;obtain ⟨v2,hv2⟩:∃ v2,v2=st ((pc+a6.toNat - 1)/4096):=⟨_,rfl⟩;simp only [← hv1,← hv2] at cs;have HV1:=hid hv1;clear hv1;have HV2:=hid hv2;clear hv2;have CS0:=hid cs;clear cs hm hs;have H:=hid h;clear h;unfold zB at *;go_enter func74,ntmps74;go_upto_region 4 with (fail);have A1:=hid ((Bl.new _ (.cells #[.int .i64 a0,.int .i64 a1,.int .i64 a2,.int .i64 a3,.int .i64 a4,.int .i64 a5,.int .i64 a6,.pointer (some ⟨b,0,none⟩),.int .u64 f,.int .u64 l] 177)).at_ A0.out);have K1:=hid (K0.out.alloc (.cells #[.int .i64 a0,.int .i64 a1,.int .i64 a2,.int .i64 a3,.int .i64 a4,.int .i64 a5,.int .i64 a6,.pointer (some ⟨b,0,none⟩),.int .u64 f,.int .u64 l] 177));have A2:=hid (zBB w (.cells (Td.I7 0 0 0 0 0 0 0) 38) (.cells #[.int .i64 a0,.int .i64 a1,.int .i64 a2,.int .i64 a3,.int .i64 a4,.int .i64 a5,.int .i64 a6,.pointer (some ⟨b,0,none⟩),.int .u64 f,.int .u64 l] 177));have CS:=hid (fun W kk=>CS0.out W (K1.out.trans kk));clear hlook c0;generalize (w.alloc (.cells (Td.I7 0 0 0 0 0 0 0) 38)).alloc (.cells #[.int .i64 a0,.int .i64 a1,.int .i64 a2,.int .i64 a3,.int .i64 a4,.int .i64 a5,.int .i64 a6,.pointer (some ⟨b,0,none⟩),.int .u64 f,.int .u64 l] 177)=W at *;obtain ⟨d0,d1,d2,d3,d4,d5,d6,d7,d8,d9⟩:=ten_at A2.out;go_upto_region 6 with (fail);refine zAC 8 (fun w'=>w'.cell? ⟨w.heap.size+1,6,none⟩=some (.int .i64 a6)∧w'.cell? ⟨w.heap.size+1,7,none⟩=some (.pointer (some ⟨b,0,none⟩))∧w'.cell? ⟨w.heap.size+1,8,none⟩=some (.int .u64 f)∧w'.cell? ⟨w.heap.size+1,9,none⟩=some (.int .u64 l)∧Bl W w') (by kernel_rfl) (by decide) (⟨d6,d7,d8,d9,(Bl.refl _).drew⟩) (fun hH=>?_);refine zC (i:=0) (v:=?_) rfl (by kernel_rfl) (fun _ _ _ h=>h) (Or.inl ⟨by rfl,?hy⟩) hH ?_
 case hy=>(intro w hSw;(try dsimp only at hSw);go_split_ands;go_simp;try (with_reducible rfl))
 (try simp only [Act.put,List.getElem_toArray,List.getElem_cons_zero,List.getElem_cons_succ,qa])
 refine zC (i:=1) (v:=?_) rfl (by kernel_rfl) (fun _ _ _ h=>h) (Or.inl ⟨by rfl,?hy⟩) hH ?_
 case hy=>(intro w hSw;(try dsimp only at hSw);go_split_ands;go_simp;try (with_reducible rfl))
 (try simp only [Act.put,List.getElem_toArray,List.getElem_cons_zero,List.getElem_cons_succ,qa])
 refine zC (i:=2) (v:=?_) rfl (by kernel_rfl) (fun _ _ _ h=>h) (Or.inl ⟨by rfl,?hy⟩) hH ?_
 case hy=>(intro w hSw;(try dsimp only at hSw);go_split_ands;go_simp;try (with_reducible rfl))
 (try simp only [Act.put,List.getElem_toArray,List.getElem_cons_zero,List.getElem_cons_succ,qa])
 refine zC (i:=3) (v:=?_) rfl (by kernel_rfl) (fun _ _ _ h=>h) (Or.inl ⟨by rfl,?hy⟩) hH ?_
 case hy=>(intro w hSw;(try dsimp only at hSw);go_split_ands;go_simp;try (with_reducible rfl))
 (try simp only [Act.put,List.getElem_toArray,List.getElem_cons_zero,List.getElem_cons_succ,qa])
 refine zC (i:=4) (v:=?_) rfl (by kernel_rfl) (fun _ _ _ h=>h) (Or.inl ⟨by rfl,?hy⟩) hH ?_
 case hy=>(intro w hSw;(try dsimp only at hSw);go_split_ands;go_simp;try (with_reducible rfl))
 (try simp only [Act.put,List.getElem_toArray,List.getElem_cons_zero,List.getElem_cons_succ,qa])
 refine zC (i:=5) (v:=?_) rfl (by kernel_rfl) (fun _ _ _ h=>h) (Or.inl ⟨by rfl,?hy⟩) hH ?_
 case hy=>(intro w hSw;(try dsimp only at hSw);go_split_ands;go_simp;try (with_reducible rfl))
 (try simp only [Act.put,List.getElem_toArray,List.getElem_cons_zero,List.getElem_cons_succ,qa])
 refine zC (i:=6) (v:=?_) rfl (by kernel_rfl) (fun _ _ _ h=>h) (Or.inl ⟨by rfl,?hy⟩) hH ?_
 case hy=>(intro w hSw;(try dsimp only at hSw);go_split_ands;go_simp;try (with_reducible rfl))
 (try simp only [Act.put,List.getElem_toArray,List.getElem_cons_zero,List.getElem_cons_succ,qa])
 refine zo (i:=7) rfl (by kernel_rfl) (fun K hK=>?_);go_simp;refine (CS.out _ hH.2.2.2.2).mono ?_;rintro e w9 ⟨rfl,k9⟩;refine hK.out _ _ ?_ (fun hH=>?_)
 ·exact ⟨k9.cell' hH.1,k9.cell' hH.2.1,k9.cell' hH.2.2.1,k9.cell' hH.2.2.2.1,hH.2.2.2.2.trans k9⟩
 clear hK K;(try simp only [Act.put,List.getElem_toArray,List.getElem_cons_zero,List.getElem_cons_succ,qa])
 refine ⟨by kernel_rfl,?_⟩;simp only [List.drop_succ_cons,List.drop_zero];have hw:=hid (hH.2.2.2.2);have K9':=K1.out.trans hw.out;obtain ⟨cs1,t1,hb1⟩:=HSB.out;obtain ⟨cs2,t2,hb2⟩:=HMB.out;have hq:=ptr_eql ⟨cs1,t1,K9'.at_ hb1⟩ ⟨cs2,t2,K9'.at_ hb2⟩ 9998;simp only [Nat.reduceAdd] at hq;clear hb1 hb2 K9';clear d0 d1 d2 d3 d4 d5 d6 d7 d8 d9 CS CS0 hH;have E1:=hid (hw.out.at_ A1.out);have E2:=hid (hw.out.at_ A2.out);have K9:=hid (K1.out.trans hw.out);by_cases hc:b=sb∧f=v1∧l=v2
 ·obtain ⟨rfl,rfl,rfl⟩:=hc;rw [decide_eq_true rfl] at hq;obtain ⟨d0,d1,d2,d3,d4,d5,d6,_⟩:=ten_at E2.out;obtain ⟨e0,e1,e2,e3,e4,e5,e6⟩:=zI E1.out;have z0:=free_at E1.out;go_wp2_with fail;refine zzb (zk rfl _ _ w.heap.size 38 _ (0,0) _ rfl (set7 _ _ _ _ _ _ _ E1.out) underlying38 rfl (by kernel_rfl)) rfl ?_;exact Or.inl ⟨⟨rfl,HV1.out,HV2.out⟩,rfl,bl7 K9.out (zzr _) _ _ _ _ _ _ _⟩
 ·have HCC:=hid hc;have c0:=(H.out.bl K9.out).cell;obtain ⟨w10,hdel,⟨k',hm',hk'⟩,ht⟩:=(H.out.bl K9.out).map.del (p:=pc) (by omega) 0;have HC:=hid ((H.out.bl K9.out).turned hm' ht);have hfr:=Fr.turned ht;have E3:=hid (hfr.at_ E1.out (fun e=>by have e':w.heap.size=B:=e;omega));have HF:=hid ((Fr.zP (S:=only B) K9.out).trans hfr);obtain ⟨e0,e1,e2,e3,e4,e5,e6⟩:=zI E3.out;have z0:=free_at E3.out;have HK:=hid hk';clear hfr ht hm' hk';have hc3:(¬ b=sb)∨(b=sb∧¬ f=v1)∨(b=sb∧f=v1∧¬ l=v2):=by
   by_cases h1:b=sb
   ·by_cases h2:f=v1
    ·exact .inr (.inr ⟨h1,h2,fun h3=>hc ⟨h1,h2,h3⟩⟩)
    ·exact .inr (.inl ⟨h1,h2⟩)
   ·exact .inl h1
  clear hc;rcases hc3 with h1|⟨h1,h2⟩|⟨h1,h2,h3⟩
  ·rw [zzf h1] at hq;clear h1;go_wp2_with fail;refine zzb (zk rfl _ _ w.heap.size 38 _ (0,0) _ rfl (set7 _ _ _ _ _ _ _ E3.out) underlying38 rfl (by kernel_rfl)) rfl ?_;exact Or.inr ⟨by rw [← HV1.out,← HV2.out];exact HCC.out,rfl,⟨k',HC.out.bl7 (by omega) (by omega) _ _ _ _ _ _ _,HK.out⟩,HF.out.bl7 (zzr _) _ _ _ _ _ _ _⟩
  ·rw [decide_eq_true h1] at hq;clear h1;go_wp2_with fail;refine zzb (zk rfl _ _ w.heap.size 38 _ (0,0) _ rfl (set7 _ _ _ _ _ _ _ E3.out) underlying38 rfl (by kernel_rfl)) rfl ?_;exact Or.inr ⟨by rw [← HV1.out,← HV2.out];exact HCC.out,rfl,⟨k',HC.out.bl7 (by omega) (by omega) _ _ _ _ _ _ _,HK.out⟩,HF.out.bl7 (zzr _) _ _ _ _ _ _ _⟩
  ·rw [decide_eq_true h1] at hq;clear h1;go_wp2_with fail;refine zzb (zk rfl _ _ w.heap.size 38 _ (0,0) _ rfl (set7 _ _ _ _ _ _ _ E3.out) underlying38 rfl (by kernel_rfl)) rfl ?_;exact Or.inr ⟨by rw [← HV1.out,← HV2.out];exact HCC.out,rfl,⟨k',HC.out.bl7 (by omega) (by omega) _ _ _ _ _ _ _,HK.out⟩,HF.out.bl7 (zzr _) _ _ _ _ _ _ _⟩
end
theorem eqC (w:World) (p:Option Nat):(binOp .eql 116 (.map p) (.map none)).run prog w=.ok (.bool p.isNone) w:=run_eql_map_nil_sl (P:=prog) w 116 _ _ p underlying116
section
variable {T:Nat→Prop} {w:World} {sb n:Nat} {L:List Rg} {M st:Nat→Int} {mo ba en:Int} {cb B k:Nat} {g:Nat→Option Ent}
theorem keep_off (h:COff w cb) (sb pc:Nat) (i:Td.Ins):Calls prog 76 #[zB cb,zB sb,.int .u64 (pc:Int),.agg i.cells] w fun e w'=>e=.returned (.tuple #[])∧Bl w w':=by
 obtain ⟨a0,a1,a2,a3,a4,a5,a6⟩:=i;have c0:=(h.bl (Bl.new w (.cells (Td.I7 a0 a1 a2 a3 a4 a5 a6) 38))).cell;have hq:=fun W=>eqC W none
 clear h;unfold Td.Ins.cells zB;go_enter func76,ntmps76;go_wp2
 first|go_end0|(refine zzb (results_none rfl _ _ _) rfl ?_)
 exact ⟨rfl,Bl.new _ _⟩
def KeepPost (cb B:Nat) (g:Nat→Option Ent) (pc:Nat) (E:Ent) (w:World) (e:Ending) (w':World):Prop:=
 e=.returned (.tuple #[])∧(∃ g' k',CA w' cb B g' k'∧k'≤4096∧(g'=putE g pc (some E)∨g'=putE zIB pc (some E)))∧Fr (only B) w w'
theorem keep_on (h:CA w cb B g k) (hk:k≤4096) (hm:MS T w sb n L M st mo ba en) (hTB:¬ T B) (pc:Nat) (hpc:pc<274877906944) (i:Td.Ins) (hs:i.sz=2∨i.sz=4) :
  Calls prog 76 #[zB cb,zB sb,.int .u64 (pc:Int),.agg i.cells] w (KeepPost cb B g pc ⟨i,sb,st (pc/4096),st ((pc+i.sz.toNat - 1)/4096)⟩ w):=by
 obtain ⟨a0,a1,a2,a3,a4,a5,a6⟩:=i;simp only at hs;obtain ⟨v1,hv1⟩:∃ v1,v1=st (pc/4096):=⟨_,rfl⟩;obtain ⟨v2,hv2⟩:∃ v2,v2=st ((pc+a6.toNat - 1)/4096):=⟨_,rfl⟩;have cs:=fun W W' (hW:MS T W sb n L M st mo ba en) (kk:Bl W W')=>zGf (hW.bl kk) pc a6 hpc hs
 simp only [← hv1,← hv2] at cs;simp only [← hv1,← hv2];clear hv1 hv2 hs;have CS0:=hid cs;clear cs;have hpcI:(pc:Int)≤18446744073709551615:=by omega
 have hpcN:pc<2^64:=by omega
 have hltB:=h.map.lt;have hltC:=zG h.blk;have hne:=h.ne;have K0:=hid (Bl.new w (.cells (Td.I7 a0 a1 a2 a3 a4 a5 a6) 38));have A0:=hid (zzn w (.cells (Td.I7 a0 a1 a2 a3 a4 a5 a6) 38));have H1:=hid (h.bl K0.out);have c0:=H1.out.cell;have hq:=fun W=>eqC W (some B)
 have hln:=H1.out.map.len 3;have HM1:=hid (hm.bl K0.out);have HT:=hid hTB;clear hTB;clear h hm;unfold Td.Ins.cells;unfold zB at *;go_enter func76,ntmps76;go_upto_region 1 with (fail);have hkI:(k:Int)≤4096:=by omega
 by_cases hfull:4096≤k
 ·have hfI:(4096:Int)≤(k:Int):=by omega
  have ccl:=cclear_on H1.out;have CCL:=hid ccl;clear ccl;unfold zB at CCL;generalize w.alloc (.cells (Td.I7 a0 a1 a2 a3 a4 a5 a6) 38)=W0 at *;go_wp2_with fail;with_reducible refine CCL.out.mono ?_
  rintro e W ⟨rfl,hc,hf⟩;have H2:=hid hc;have HM2:=hid (HM1.out.kept hf (fun b hb e=>HT.out (by rw [← show b=B from e];exact hb)));have F2:=hid ((Fr.zP (S:=only B) K0.out).trans hf);have A2:=hid (hf.at_ A0.out (fun e=>by have e':w.heap.size=B:=e;omega));clear CCL hc hf c0 hln;have c0:=H2.out.cell;obtain ⟨d0,d1,d2,d3,d4,d5,d6⟩:=zI A2.out;have CS:=hid (fun W' kk=>CS0.out W W' HM2.out kk);go_upto_region 4 with (fail);refine zAC 12 (fun w'=>w'.cell? ⟨cb,0,none⟩=some (.map (some B))∧w'.cell? ⟨w.heap.size,0,none⟩=some (.int .i64 a0)∧w'.cell? ⟨w.heap.size,1,none⟩=some (.int .i64 a1)∧w'.cell? ⟨w.heap.size,2,none⟩=some (.int .i64 a2)∧w'.cell? ⟨w.heap.size,3,none⟩=some (.int .i64 a3)∧w'.cell? ⟨w.heap.size,4,none⟩=some (.int .i64 a4)∧w'.cell? ⟨w.heap.size,5,none⟩=some (.int .i64 a5)∧w'.cell? ⟨w.heap.size,6,none⟩=some (.int .i64 a6)∧Bl W w') (by kernel_rfl) (by decide) (⟨c0,d0,d1,d2,d3,d4,d5,d6,(Bl.refl _).drew⟩) (fun hH=>?_);refine zC (i:=0) (v:=?_) rfl (by kernel_rfl) (fun _ _ _ h=>h) (Or.inl ⟨by rfl,?hy⟩) hH ?_
  case hy=>(intro w hSw;(try dsimp only at hSw);go_split_ands;go_simp;try (with_reducible rfl))
  (try simp only [Act.put,List.getElem_toArray,List.getElem_cons_zero,List.getElem_cons_succ,qa])
  refine zC (i:=1) (v:=?_) rfl (by kernel_rfl) (fun _ _ _ h=>h) (Or.inl ⟨by rfl,?hy⟩) hH ?_
  case hy=>(intro w hSw;(try dsimp only at hSw);go_split_ands;go_simp;try (with_reducible rfl))
  (try simp only [Act.put,List.getElem_toArray,List.getElem_cons_zero,List.getElem_cons_succ,qa])
  refine zC (i:=2) (v:=?_) rfl (by kernel_rfl) (fun _ _ _ h=>h) (Or.inl ⟨by rfl,?hy⟩) hH ?_
  case hy=>(intro w hSw;(try dsimp only at hSw);go_split_ands;go_simp;try (with_reducible rfl))
  (try simp only [Act.put,List.getElem_toArray,List.getElem_cons_zero,List.getElem_cons_succ,qa])
  refine zC (i:=3) (v:=?_) rfl (by kernel_rfl) (fun _ _ _ h=>h) (Or.inl ⟨by rfl,?hy⟩) hH ?_
  case hy=>(intro w hSw;(try dsimp only at hSw);go_split_ands;go_simp;try (with_reducible rfl))
  (try simp only [Act.put,List.getElem_toArray,List.getElem_cons_zero,List.getElem_cons_succ,qa])
  refine zC (i:=4) (v:=?_) rfl (by kernel_rfl) (fun _ _ _ h=>h) (Or.inl ⟨by rfl,?hy⟩) hH ?_
  case hy=>(intro w hSw;(try dsimp only at hSw);go_split_ands;go_simp;try (with_reducible rfl))
  (try simp only [Act.put,List.getElem_toArray,List.getElem_cons_zero,List.getElem_cons_succ,qa])
  refine zC (i:=5) (v:=?_) rfl (by kernel_rfl) (fun _ _ _ h=>h) (Or.inl ⟨by rfl,?hy⟩) hH ?_
  case hy=>(intro w hSw;(try dsimp only at hSw);go_split_ands;go_simp;try (with_reducible rfl))
  (try simp only [Act.put,List.getElem_toArray,List.getElem_cons_zero,List.getElem_cons_succ,qa])
  refine zC (i:=6) (v:=?_) rfl (by kernel_rfl) (fun _ _ _ h=>h) (Or.inl ⟨by rfl,?hy⟩) hH ?_
  case hy=>(intro w hSw;(try dsimp only at hSw);go_split_ands;go_simp;try (with_reducible rfl))
  (try simp only [Act.put,List.getElem_toArray,List.getElem_cons_zero,List.getElem_cons_succ,qa])
  refine zC (i:=7) (v:=?_) rfl (by kernel_rfl) (fun _ _ _ h=>h) (Or.inl ⟨by rfl,?hy⟩) hH ?_
  case hy=>(intro w hSw;(try dsimp only at hSw);go_split_ands;go_simp;try (with_reducible rfl))
  (try simp only [Act.put,List.getElem_toArray,List.getElem_cons_zero,List.getElem_cons_succ,qa])
  refine zC (i:=8) (v:=?_) rfl (by kernel_rfl) (fun _ _ _ h=>h) (Or.inl ⟨by rfl,?hy⟩) hH ?_
  case hy=>(intro w hSw;(try dsimp only at hSw);go_split_ands;go_simp;try (with_reducible rfl))
  (try simp only [Act.put,List.getElem_toArray,List.getElem_cons_zero,List.getElem_cons_succ,qa])
  refine zC (i:=9) (v:=?_) rfl (by kernel_rfl) (fun _ _ _ h=>h) (Or.inl ⟨by rfl,?hy⟩) hH ?_
  case hy=>(intro w hSw;(try dsimp only at hSw);go_split_ands;go_simp;try (with_reducible rfl))
  (try simp only [Act.put,List.getElem_toArray,List.getElem_cons_zero,List.getElem_cons_succ,qa])
  refine zo (i:=10) rfl (by kernel_rfl) (fun K hK=>?_);go_simp;refine (CS.out _ hH.2.2.2.2.2.2.2.2).mono ?_;rintro e w9 ⟨rfl,k9⟩;refine hK.out _ _ ?_ (fun hH=>?_)
  ·exact ⟨k9.cell' hH.1,k9.cell' hH.2.1,k9.cell' hH.2.2.1,k9.cell' hH.2.2.2.1,k9.cell' hH.2.2.2.2.1,k9.cell' hH.2.2.2.2.2.1,k9.cell' hH.2.2.2.2.2.2.1,k9.cell' hH.2.2.2.2.2.2.2.1,hH.2.2.2.2.2.2.2.2.trans k9⟩
  clear hK K;(try simp only [Act.put,List.getElem_toArray,List.getElem_cons_zero,List.getElem_cons_succ,qa])
  refine zC (i:=11) (v:=?_) rfl (by kernel_rfl) (fun _ _ _ h=>h) (Or.inl ⟨by rfl,?hy⟩) hH ?_
  case hy=>(intro w hSw;(try dsimp only at hSw);go_split_ands;go_simp;try (with_reducible rfl))
  (try simp only [Act.put,List.getElem_toArray,List.getElem_cons_zero,List.getElem_cons_succ,qa])
  refine ⟨by kernel_rfl,?_⟩;simp only [List.drop_succ_cons,List.drop_zero];have hw:=hid (hH.2.2.2.2.2.2.2.2);clear d0 d1 d2 d3 d4 d5 d6 c0 CS CS0 hH;obtain ⟨w10,hput,hmp,ht⟩:=(H2.out.bl hw.out).map.put hpcN (by omega) ⟨⟨a0,a1,a2,a3,a4,a5,a6⟩,sb,v1,v2⟩;have HC:=hid ((H2.out.bl hw.out).turned hmp ht);have HF:=hid ((F2.out.trans (Fr.zP hw.out)).trans (Fr.turned ht));simp only [Ent.v] at hput;clear hmp ht;go_wp2_with fail
  go_end0
  exact ⟨rfl,⟨_,_,HC.out,by simp [zIB],.inr rfl⟩,HF.out⟩
 ·have hfI:(k:Int)<4096:=by omega
  clear hfull;generalize w.alloc (.cells (Td.I7 a0 a1 a2 a3 a4 a5 a6) 38)=W at *;obtain ⟨d0,d1,d2,d3,d4,d5,d6⟩:=zI A0.out;have CS:=hid (fun W' kk=>CS0.out W W' HM1.out kk);go_upto_region 4 with (fail);refine zAC 12 (fun w'=>w'.cell? ⟨cb,0,none⟩=some (.map (some B))∧w'.cell? ⟨w.heap.size,0,none⟩=some (.int .i64 a0)∧w'.cell? ⟨w.heap.size,1,none⟩=some (.int .i64 a1)∧w'.cell? ⟨w.heap.size,2,none⟩=some (.int .i64 a2)∧w'.cell? ⟨w.heap.size,3,none⟩=some (.int .i64 a3)∧w'.cell? ⟨w.heap.size,4,none⟩=some (.int .i64 a4)∧w'.cell? ⟨w.heap.size,5,none⟩=some (.int .i64 a5)∧w'.cell? ⟨w.heap.size,6,none⟩=some (.int .i64 a6)∧Bl W w') (by kernel_rfl) (by decide) (⟨c0,d0,d1,d2,d3,d4,d5,d6,(Bl.refl _).drew⟩) (fun hH=>?_);refine zC (i:=0) (v:=?_) rfl (by kernel_rfl) (fun _ _ _ h=>h) (Or.inl ⟨by rfl,?hy⟩) hH ?_
  case hy=>(intro w hSw;(try dsimp only at hSw);go_split_ands;go_simp;try (with_reducible rfl))
  (try simp only [Act.put,List.getElem_toArray,List.getElem_cons_zero,List.getElem_cons_succ,qa])
  refine zC (i:=1) (v:=?_) rfl (by kernel_rfl) (fun _ _ _ h=>h) (Or.inl ⟨by rfl,?hy⟩) hH ?_
  case hy=>(intro w hSw;(try dsimp only at hSw);go_split_ands;go_simp;try (with_reducible rfl))
  (try simp only [Act.put,List.getElem_toArray,List.getElem_cons_zero,List.getElem_cons_succ,qa])
  refine zC (i:=2) (v:=?_) rfl (by kernel_rfl) (fun _ _ _ h=>h) (Or.inl ⟨by rfl,?hy⟩) hH ?_
  case hy=>(intro w hSw;(try dsimp only at hSw);go_split_ands;go_simp;try (with_reducible rfl))
  (try simp only [Act.put,List.getElem_toArray,List.getElem_cons_zero,List.getElem_cons_succ,qa])
  refine zC (i:=3) (v:=?_) rfl (by kernel_rfl) (fun _ _ _ h=>h) (Or.inl ⟨by rfl,?hy⟩) hH ?_
  case hy=>(intro w hSw;(try dsimp only at hSw);go_split_ands;go_simp;try (with_reducible rfl))
  (try simp only [Act.put,List.getElem_toArray,List.getElem_cons_zero,List.getElem_cons_succ,qa])
  refine zC (i:=4) (v:=?_) rfl (by kernel_rfl) (fun _ _ _ h=>h) (Or.inl ⟨by rfl,?hy⟩) hH ?_
  case hy=>(intro w hSw;(try dsimp only at hSw);go_split_ands;go_simp;try (with_reducible rfl))
  (try simp only [Act.put,List.getElem_toArray,List.getElem_cons_zero,List.getElem_cons_succ,qa])
  refine zC (i:=5) (v:=?_) rfl (by kernel_rfl) (fun _ _ _ h=>h) (Or.inl ⟨by rfl,?hy⟩) hH ?_
  case hy=>(intro w hSw;(try dsimp only at hSw);go_split_ands;go_simp;try (with_reducible rfl))
  (try simp only [Act.put,List.getElem_toArray,List.getElem_cons_zero,List.getElem_cons_succ,qa])
  refine zC (i:=6) (v:=?_) rfl (by kernel_rfl) (fun _ _ _ h=>h) (Or.inl ⟨by rfl,?hy⟩) hH ?_
  case hy=>(intro w hSw;(try dsimp only at hSw);go_split_ands;go_simp;try (with_reducible rfl))
  (try simp only [Act.put,List.getElem_toArray,List.getElem_cons_zero,List.getElem_cons_succ,qa])
  refine zC (i:=7) (v:=?_) rfl (by kernel_rfl) (fun _ _ _ h=>h) (Or.inl ⟨by rfl,?hy⟩) hH ?_
  case hy=>(intro w hSw;(try dsimp only at hSw);go_split_ands;go_simp;try (with_reducible rfl))
  (try simp only [Act.put,List.getElem_toArray,List.getElem_cons_zero,List.getElem_cons_succ,qa])
  refine zC (i:=8) (v:=?_) rfl (by kernel_rfl) (fun _ _ _ h=>h) (Or.inl ⟨by rfl,?hy⟩) hH ?_
  case hy=>(intro w hSw;(try dsimp only at hSw);go_split_ands;go_simp;try (with_reducible rfl))
  (try simp only [Act.put,List.getElem_toArray,List.getElem_cons_zero,List.getElem_cons_succ,qa])
  refine zC (i:=9) (v:=?_) rfl (by kernel_rfl) (fun _ _ _ h=>h) (Or.inl ⟨by rfl,?hy⟩) hH ?_
  case hy=>(intro w hSw;(try dsimp only at hSw);go_split_ands;go_simp;try (with_reducible rfl))
  (try simp only [Act.put,List.getElem_toArray,List.getElem_cons_zero,List.getElem_cons_succ,qa])
  refine zo (i:=10) rfl (by kernel_rfl) (fun K hK=>?_);go_simp;refine (CS.out _ hH.2.2.2.2.2.2.2.2).mono ?_;rintro e w9 ⟨rfl,k9⟩;refine hK.out _ _ ?_ (fun hH=>?_)
  ·exact ⟨k9.cell' hH.1,k9.cell' hH.2.1,k9.cell' hH.2.2.1,k9.cell' hH.2.2.2.1,k9.cell' hH.2.2.2.2.1,k9.cell' hH.2.2.2.2.2.1,k9.cell' hH.2.2.2.2.2.2.1,k9.cell' hH.2.2.2.2.2.2.2.1,hH.2.2.2.2.2.2.2.2.trans k9⟩
  clear hK K;(try simp only [Act.put,List.getElem_toArray,List.getElem_cons_zero,List.getElem_cons_succ,qa])
  refine zC (i:=11) (v:=?_) rfl (by kernel_rfl) (fun _ _ _ h=>h) (Or.inl ⟨by rfl,?hy⟩) hH ?_
  case hy=>(intro w hSw;(try dsimp only at hSw);go_split_ands;go_simp;try (with_reducible rfl))
  (try simp only [Act.put,List.getElem_toArray,List.getElem_cons_zero,List.getElem_cons_succ,qa])
  refine ⟨by kernel_rfl,?_⟩;simp only [List.drop_succ_cons,List.drop_zero];have hw:=hid (hH.2.2.2.2.2.2.2.2);clear d0 d1 d2 d3 d4 d5 d6 c0 CS CS0 hH hln;obtain ⟨w10,hput,hmp,ht⟩:=(H1.out.bl hw.out).map.put hpcN (by omega) ⟨⟨a0,a1,a2,a3,a4,a5,a6⟩,sb,v1,v2⟩;have HC:=hid ((H1.out.bl hw.out).turned hmp ht);have HF:=hid ((Fr.zP (S:=only B) (K0.out.trans hw.out)).trans (Fr.turned ht));simp only [Ent.v] at hput;clear hmp ht;go_wp2_with fail
  go_end0
  exact ⟨rfl,⟨_,_,HC.out,by split<;>omega,.inl rfl⟩,HF.out⟩
end
abbrev Sps:=Nat→List Rg→(Nat→Int)→(Nat→Int)→Prop
def Good (R:Sps) (p:Nat) (e:Ent):Prop:=(e.i.sz=2∨e.i.sz=4)∧p<274877906944∧(∃ L M st,R e.sb L M st)∧∀ L M st,R e.sb L M st→e.f≤st (p/4096)∧e.l≤st ((p+e.i.sz.toNat - 1)/4096)∧(e.f=st (p/4096)→e.l=st ((p+e.i.sz.toNat - 1)/4096)→zBl L M p ⟨e.i,0,0,0⟩)
def Inv (R:Sps) (g:Nat→Option Ent):Prop:=∀ p e,g p=some e→Good R p e
theorem Inv.none_ (R:Sps):Inv R zIB:=fun p e h=>by cases h
def Sole (R:Sps) (sb:Nat) (L:List Rg) (M st:Nat→Int):Prop:=R sb L M st∧∀ L' M' st',R sb L' M' st'→L'=L∧M'=M∧st'=st
def zHB (R:Sps) (w:World):Prop:=∀ b L M st,R b L M st→∃ cs t,w.heap[b]?=some (.cells cs t (0,0))
theorem zHB.bl {R:Sps} (h:zHB R w) (k:Bl w w'):zHB R w':=fun b L M st hr=>by
 obtain ⟨cs,t,h1⟩:=h b L M st hr;exact ⟨cs,t,k.at_ h1⟩
theorem Inv.del {R:Sps} {g:Nat→Option Ent} (h:Inv R g) (q:Nat):Inv R (putE g q none):=fun p e he=>by
 by_cases hp:p=q
 ·subst hp;rw [zCa] at he;cases he
 ·rw [zBq _ _ _ hp] at he;exact h p e he
theorem Inv.put {R:Sps} {g:Nat→Option Ent} (h:Inv R g) {x:Ent} (hx:Good R q x):Inv R (putE g q (some x)):=fun p e he=>by
 by_cases hp:p=q
 ·subst hp;rw [zCa] at he;injection he with he;subst he;exact hx
 ·rw [zBq _ _ _ hp] at he;exact h p e he
theorem inv_put {R:Sps} {g g':Nat→Option Ent} (h:Inv R g) {x:Ent} (hx:Good R q x) (hg:g'=putE g q (some x)∨g'=putE zIB q (some x)):Inv R g':=by
 rcases hg with rfl|rfl
 ·exact h.put hx
 ·exact (Inv.none_ R).put hx
theorem good_new {R:Sps} (hR:Sole R sb L M st) {pc:Nat} (h:zBl L M pc ⟨i,0,0,0⟩) (hs:So 0 274877906944 L):Good R pc ⟨i,sb,st (pc/4096),st ((pc+i.sz.toNat - 1)/4096)⟩:=by
 obtain ⟨h1,h2⟩:=h.size hs;refine ⟨h1,h2,⟨L,M,st,hR.1⟩,fun L' M' st' h'=>?_⟩;obtain ⟨rfl,rfl,rfl⟩:=hR.2 L' M' st' h';exact ⟨Int.le_refl _,Int.le_refl _,fun _ _=>h⟩
theorem ans_ok {pc:Nat} (h:zBl L M pc ⟨i,0,fk,fa⟩):fk=0∧fa=0:=by
 obtain ⟨y,k,x,_,he⟩:=h;unfold zEM at he
 split at he
 ·split at he
  ·injection he with _ _ h1 h2;exact ⟨h1,h2⟩
  ·injection he with _ h1;cases h1
 ·injection he with _ h1;cases h1
theorem zEv {c e:Value} (hne:g≠g2) (h:w.heap[g]?=some (.cells #[a0,a1,a2,a3,a4,a5,a6] t (0,0))) (h2:w.heap[g2]?=some (.cells #[c,d,e] t2 (0,0)))
 (x0 x1 x2 x3 x4 x5 x6 p q r:Value) (f:Fr S w0 w) (hg:w0.heap.size≤g) (hg2:w0.heap.size≤g2):
  (((((((((((w.setCell ⟨g,0,none⟩ x0).setCell ⟨g,1,none⟩ x1).setCell ⟨g,2,none⟩ x2).setCell ⟨g,3,none⟩ x3).setCell ⟨g,4,none⟩ x4).setCell ⟨g,5,none⟩ x5).setCell ⟨g,6,none⟩ x6).setCell ⟨g2,0,none⟩ p).setCell ⟨g2,1,none⟩ q).setCell ⟨g2,2,none⟩ r)).heap[g]?=some (.cells #[x0,x1,x2,x3,x4,x5,x6] t (0,0)) ∧
  (((((((((((w.setCell ⟨g,0,none⟩ x0).setCell ⟨g,1,none⟩ x1).setCell ⟨g,2,none⟩ x2).setCell ⟨g,3,none⟩ x3).setCell ⟨g,4,none⟩ x4).setCell ⟨g,5,none⟩ x5).setCell ⟨g,6,none⟩ x6).setCell ⟨g2,0,none⟩ p).setCell ⟨g2,1,none⟩ q).setCell ⟨g2,2,none⟩ r)).heap[g2]?=some (.cells #[p,q,r] t2 (0,0))∧Fr S w0 ((((((((((w.setCell ⟨g,0,none⟩ x0).setCell ⟨g,1,none⟩ x1).setCell ⟨g,2,none⟩ x2).setCell ⟨g,3,none⟩ x3).setCell ⟨g,4,none⟩ x4).setCell ⟨g,5,none⟩ x5).setCell ⟨g,6,none⟩ x6).setCell ⟨g2,0,none⟩ p).setCell ⟨g2,1,none⟩ q).setCell ⟨g2,2,none⟩ r):=
 ⟨oth3 (set7 x0 x1 x2 x3 x4 x5 x6 h) (fun e=>hne e.symm) p q r,set3 p q r (oth7 h2 hne x0 x1 x2 x3 x4 x5 x6),(f.bl7 hg x0 x1 x2 x3 x4 x5 x6).bl3 hg2 p q r⟩
theorem zHi {c e:Value} (hne:g≠g2) (h:w.heap[g]?=some (.cells #[a0,a1,a2,a3,a4,a5,a6] t (0,0))) (h2:w.heap[g2]?=some (.cells #[c,d,e] t2 (0,0)))
 (x0 x1 x2 x3 x4 x5 x6 p q r:Value) (f:Fr S w0 w) (hg:w0.heap.size≤g) (hg2:w0.heap.size≤g2):
  (((((((((((w.setCell ⟨g2,0,none⟩ p).setCell ⟨g2,1,none⟩ q).setCell ⟨g2,2,none⟩ r).setCell ⟨g,0,none⟩ x0).setCell ⟨g,1,none⟩ x1).setCell ⟨g,2,none⟩ x2).setCell ⟨g,3,none⟩ x3).setCell ⟨g,4,none⟩ x4).setCell ⟨g,5,none⟩ x5).setCell ⟨g,6,none⟩ x6)).heap[g]?=some (.cells #[x0,x1,x2,x3,x4,x5,x6] t (0,0)) ∧
  (((((((((((w.setCell ⟨g2,0,none⟩ p).setCell ⟨g2,1,none⟩ q).setCell ⟨g2,2,none⟩ r).setCell ⟨g,0,none⟩ x0).setCell ⟨g,1,none⟩ x1).setCell ⟨g,2,none⟩ x2).setCell ⟨g,3,none⟩ x3).setCell ⟨g,4,none⟩ x4).setCell ⟨g,5,none⟩ x5).setCell ⟨g,6,none⟩ x6)).heap[g2]?=some (.cells #[p,q,r] t2 (0,0))∧Fr S w0 ((((((((((w.setCell ⟨g2,0,none⟩ p).setCell ⟨g2,1,none⟩ q).setCell ⟨g2,2,none⟩ r).setCell ⟨g,0,none⟩ x0).setCell ⟨g,1,none⟩ x1).setCell ⟨g,2,none⟩ x2).setCell ⟨g,3,none⟩ x3).setCell ⟨g,4,none⟩ x4).setCell ⟨g,5,none⟩ x5).setCell ⟨g,6,none⟩ x6):=
 ⟨set7 x0 x1 x2 x3 x4 x5 x6 (oth3 h (fun e=>hne e.symm) p q r),oth7 (set3 p q r h2) hne x0 x1 x2 x3 x4 x5 x6,(f.bl3 hg2 p q r).bl7 hg x0 x1 x2 x3 x4 x5 x6⟩
section
variable {R:Sps} {T:Nat→Prop} {w:World} {sb n:Nat} {L:List Rg} {M st:Nat→Int} {mo ba en:Int} {cb B k:Nat} {g:Nat→Option Ent}
def FindAny (R:Sps) (L:List Rg) (M:Nat→Int) (cb B k pc:Nat) (w:World) (e:Ending) (w':World):Prop:=
 (∃ i,zBl L M pc ⟨i,0,0,0⟩∧e=.returned (.tuple #[.agg i.cells,.bool true])∧Bl w w'∧∃ g' k',CA w' cb B g' k'∧k'≤k∧Inv R g') ∨
 (e=.returned (.tuple #[.agg (Td.I7 0 0 0 0 0 0 0),.bool false])∧∃ g' k',CA w' cb B g' k'∧k'≤k∧Inv R g'∧Fr (only B) w w')
theorem cfind_any (h:CA w cb B g k) (hI:Inv R g) (hR:Sole R sb L M st) (hRb:zHB R w) (hm:MS T w sb n L M st mo ba en) (pc:Nat) (hpc:pc<2^64) :
  Calls prog 74 #[zB cb,zB sb,.int .u64 (pc:Int)] w (FindAny R L M cb B k pc w):=by
 cases hg:g pc with
 | none =>
  refine (find_none h sb pc hpc hg).mono ?_;rintro e w' ⟨rfl,k1⟩;exact Or.inr ⟨rfl,g,k,h.bl k1,zzr _,hI,Fr.zP k1⟩
 | some x =>
  obtain ⟨h1,h2,⟨L1,M1,st1,h3⟩,h4⟩:=hI pc x hg;refine (find_some h hm pc h2 x hg h1 (hRb _ _ _ _ h3)).mono ?_;rintro e w' (⟨⟨q1,q2,q3⟩,rfl,k1⟩|⟨hn,rfl,⟨k',hc,hk'⟩,hf⟩)
  ·refine Or.inl ⟨x.i,?_,rfl,k1,g,k,h.bl k1,zzr _,hI⟩;exact (h4 L M st (by rw [q1];exact hR.1)).2.2 q2 q3
  ·exact Or.inr ⟨rfl,_,k',hc,hk',hI.del pc,hf⟩
def OnPost (R:Sps) (L:List Rg) (M:Nat→Int) (cb B pc:Nat) (w:World) (e:Ending) (w':World):Prop:=
 ∃ A,zBl L M pc A∧e=.returned A.v∧(∃ g' k',CA w' cb B g' k'∧k'≤4096∧Inv R g')∧Fr (only B) w w'
def OffPost (L:List Rg) (M:Nat→Int) (pc:Nat) (w:World) (e:Ending) (w':World):Prop:=∃ A,zBl L M pc A∧e=.returned A.v∧Bl w w'
theorem fetch_on (h:CA w cb B g k) (hk:k ≤ 4096) (hI:Inv R g) (hR:Sole R sb L M st) (hRb:zHB R w) (hTB:¬ T B) (hB:21 ≤ B) (hm:MS T w sb n L M st mo ba en) (hT:Td.zBk w) (pc:Nat) (hpc:pc < 2 ^ 64) :
    Calls prog 50 #[zB cb,zB sb,.int .u64 (pc:Int)] w (OnPost R L M cb B pc w):=by
  have K0:=hid ((Bl.new w (.cells (Td.I7 0 0 0 0 0 0 0) 38)).alloc (.cells #[.int .i64 0,.int .i64 0,.int .u64 0] 33))
  have A0:=hid ((Bl.new (w.alloc (.cells (Td.I7 0 0 0 0 0 0 0) 38)) (.cells #[.int .i64 0,.int .i64 0,.int .u64 0] 33)).at_ (zzn w (.cells (Td.I7 0 0 0 0 0 0 0) 38)))
  have A1:=hid (zBB w (.cells (Td.I7 0 0 0 0 0 0 0) 38) (.cells #[.int .i64 0,.int .i64 0,.int .u64 0] 33))
  have hpcI:(pc:Int) ≤ 18446744073709551615:=by omega
  have cf:=cfind_any (h.bl K0.out) hI hR (hRb.bl K0.out) (hm.bl K0.out) pc hpc
  have hltB:=h.map.lt
  have hltC:=zG h.blk
  have cd:=fun W (k:Fr (only B) w W)=>zGI (hm.kept k (fun b hb e=>hTB (by rw [← show b = B from e];exact hb))) (hT.fr k (fun g hg e=>by have e':g = B:=e;omega)) pc hpc
  have ck:=fun W g' k' i (kk:Fr (only B) w W) (hc:CA W cb B g' k') (hk':k' ≤ 4096) (hp:pc < 274877906944) (hs:i.sz = 2 ∨ i.sz = 4)=>keep_on hc hk' (hm.kept kk (fun b hb e=>hTB (by rw [← show b = B from e];exact hb))) hTB pc hp i hs
  have HSO:=hid hm.so
  have HR:=hid hR;clear hR
  have HK:=hid hk;clear hk
  clear h hI hRb hm hT hTB hB
  have CF:=hid cf;clear cf
  have CD:=hid cd;clear cd
  have CK:=hid ck;clear ck
  unfold zB at *
  go_enter func50,ntmps50
  go_wp2_with fail
  with_reducible refine CF.out.mono ?_
  rintro e w1 (⟨⟨a0,a1,a2,a3,a4,a5,a6⟩,han,rfl,hf,hc⟩ | ⟨rfl,g1',k1,hc,hk1,hI1,hf⟩)
  · unfold Td.Ins.cells
    have HAN:=hid han;clear han
    have HC:=hid hc;clear hc
    have F1:=hid ((Fr.zP (S:=only B) K0.out).trans (Fr.zP hf))
    have B0:=hid (hf.at_ A0.out)
    have B1:=hid (hf.at_ A1.out)
    have hlt1:w.heap.size + 1 < w1.heap.size:=zG B1.out
    clear hf CF CD CK
    go_upto_region 2 with (fail)
    have F2:=hid (F1.out.trans (Fr.zP (S:=only B) (Bl.new w1 (.cells (Td.I7 a0 a1 a2 a3 a4 a5 a6) 38))))
    have C0:=hid ((Bl.new w1 (.cells (Td.I7 a0 a1 a2 a3 a4 a5 a6) 38)).at_ B0.out)
    have C1:=hid ((Bl.new w1 (.cells (Td.I7 a0 a1 a2 a3 a4 a5 a6) 38)).at_ B1.out)
    have C2:=hid (zzn w1 (.cells (Td.I7 a0 a1 a2 a3 a4 a5 a6) 38))
    obtain ⟨g9,k9,HC9⟩:∃ g9 k9,Hid (CA (w1.alloc (.cells (Td.I7 a0 a1 a2 a3 a4 a5 a6) 38)) cb B g9 k9∧k9 ≤ 4096∧Inv R g9):=by
      obtain ⟨g9,k9,q1,q2,q3⟩:=HC.out
      exact ⟨g9,k9,hid ⟨q1.bl (Bl.new _ _),by have:=HK.out;omega,q3⟩⟩
    generalize w1.alloc (.cells (Td.I7 a0 a1 a2 a3 a4 a5 a6) 38) = W at *
    obtain ⟨d0,d1,d2,d3,d4,d5,d6⟩:=zI C2.out
    obtain ⟨e0,e1,e2,e3,e4,e5,e6⟩:=zI C0.out
    obtain ⟨g0,g1,g2⟩:=zD C1.out
    have z0:=free_at C0.out
    have z1:=free_at C1.out
    go_wp2_with fail
    obtain ⟨s1,s2,s3⟩:=zEv (S:=only B) (w0:=w) (g:=w.heap.size) (g2:=w.heap.size + 1) (by omega) C0.out C1.out (.int .i64 a0) (.int .i64 a1) (.int .i64 a2) (.int .i64 a3) (.int .i64 a4) (.int .i64 a5) (.int .i64 a6) (.int .i64 0) (.int .i64 0) (.int .u64 0) F2.out (by omega) (by omega)
    refine zzb (zS rfl _ _ w.heap.size (w.heap.size + 1) 38 33 _ _ (0,0) (0,0) _ _ rfl s1 underlying38 rfl (by kernel_rfl) rfl s2 underlying33 rfl (by kernel_rfl)) rfl ?_
    exact ⟨_,HAN.out,rfl,⟨g9,k9,(HC9.out.1.bl7 (by omega) (by omega) _ _ _ _ _ _ _).bl3 (by omega) (by omega) _ _ _,HC9.out.2.1,HC9.out.2.2⟩,s3⟩
  · have HC:=hid hc;clear hc
    have HI1:=hid hI1;clear hI1
    have hk1':k1 ≤ 4096:=Nat.le_trans hk1 HK.out
    have F1:=hid ((Fr.zP (S:=only B) K0.out).trans hf)
    have B0:=hid (hf.at_ A0.out (fun e=>by have e':w.heap.size = B:=e;omega))
    have B1:=hid (hf.at_ A1.out (fun e=>by have e':w.heap.size + 1 = B:=e;omega))
    have hlt1:w.heap.size + 1 < w1.heap.size:=zG B1.out
    clear hf CF
    go_upto_region 2 with (fail)
    have F2:=hid (F1.out.trans (Fr.zP (S:=only B) (Bl.new w1 (.cells (Td.I7 0 0 0 0 0 0 0) 38))))
    have C0:=hid ((Bl.new w1 (.cells (Td.I7 0 0 0 0 0 0 0) 38)).at_ B0.out)
    have C1:=hid ((Bl.new w1 (.cells (Td.I7 0 0 0 0 0 0 0) 38)).at_ B1.out)
    have HC2:=hid (HC.out.bl (Bl.new w1 (.cells (Td.I7 0 0 0 0 0 0 0) 38)))
    generalize w1.alloc (.cells (Td.I7 0 0 0 0 0 0 0) 38) = W at *
    go_wp2_with fail
    with_reducible refine (CD.out _ F2.out).mono ?_
    rintro e w2 ⟨⟨⟨a0,a1,a2,a3,a4,a5,a6⟩,sk,fk,fa⟩,han,rfl,kk⟩
    unfold Ans.v zJf Td.Ins.cells
    have HAN:=hid han;clear han
    have F3:=hid (F2.out.trans (Fr.zP (S:=only B) kk))
    have E0:=hid (kk.at_ C0.out)
    have E1:=hid (kk.at_ C1.out)
    have hlt2:w.heap.size + 1 < w2.heap.size:=zG E1.out
    have HC3:=hid (HC2.out.bl kk)
    obtain ⟨e0,e1,e2,e3,e4,e5,e6⟩:=zI E0.out
    obtain ⟨g0,g1,g2⟩:=zD E1.out
    have z0:=free_at E0.out
    have z1:=free_at E1.out
    clear kk CD
    go_upto_region 5 with (fail)
    obtain ⟨s1,s2,s3⟩:=zEv (S:=only B) (w0:=w) (g:=w.heap.size) (g2:=w.heap.size + 1) (by omega) E0.out E1.out (.int .i64 a0) (.int .i64 a1) (.int .i64 a2) (.int .i64 a3) (.int .i64 a4) (.int .i64 a5) (.int .i64 a6) (.int .i64 sk) (.int .i64 fk) (.int .u64 fa) F3.out (by omega) (by omega)
    have HC4:=hid ((HC3.out.bl7 (b:=w.heap.size) (by omega) (by omega) (.int .i64 a0) (.int .i64 a1) (.int .i64 a2) (.int .i64 a3) (.int .i64 a4) (.int .i64 a5) (.int .i64 a6)).bl3 (b:=w.heap.size + 1) (by omega) (by omega) (.int .i64 sk) (.int .i64 fk) (.int .u64 fa))
    have S1:=hid s1;clear s1
    have S2:=hid s2;clear s2
    have S3:=hid s3;clear s3
    clear e0 e1 e2 e3 e4 e5 e6 g0 g1 g2 z0 z1
    generalize ((((((((((w2.setCell ⟨w.heap.size,0,none⟩ (.int .i64 a0)).setCell ⟨w.heap.size,1,none⟩ (.int .i64 a1)).setCell ⟨w.heap.size,2,none⟩ (.int .i64 a2)).setCell ⟨w.heap.size,3,none⟩ (.int .i64 a3)).setCell ⟨w.heap.size,4,none⟩ (.int .i64 a4)).setCell ⟨w.heap.size,5,none⟩ (.int .i64 a5)).setCell ⟨w.heap.size,6,none⟩ (.int .i64 a6)).setCell ⟨w.heap.size + 1,0,none⟩ (.int .i64 sk)).setCell ⟨w.heap.size + 1,1,none⟩ (.int .i64 fk)).setCell ⟨w.heap.size + 1,2,none⟩ (.int .u64 fa)) = V at *
    obtain ⟨e0,e1,e2,e3,e4,e5,e6⟩:=zI S1.out
    obtain ⟨g0,g1,g2⟩:=zD S2.out
    have z0:=free_at S1.out
    have z1:=free_at S2.out
    by_cases hsk:sk = 0
    · subst hsk
      obtain ⟨rfl,rfl⟩:=ans_ok HAN.out
      obtain ⟨hsz,hpt⟩:=HAN.out.size HSO.out
      go_wp2_with fail
      with_reducible refine (CK.out V g1' k1 ⟨a0,a1,a2,a3,a4,a5,a6⟩ S3.out HC4.out hk1' hpt hsz).mono ?_
      rintro e w4 ⟨rfl,⟨g4,k4,hc4,hk4,hg4⟩,hf4⟩
      have HC5:=hid hc4;clear hc4
      have HI4:Hid (Inv R g4):=hid (inv_put HI1.out (good_new HR.out HAN.out HSO.out) hg4)
      have F5:=hid (S3.out.trans hf4)
      have G1:=hid (hf4.at_ S1.out (fun e=>by have e':w.heap.size = B:=e;omega))
      have G2:=hid (hf4.at_ S2.out (fun e=>by have e':w.heap.size + 1 = B:=e;omega))
      have HK4:=hid hk4
      clear hf4 hg4 hk4
      clear e0 e1 e2 e3 e4 e5 e6 g0 g1 g2 z0 z1
      obtain ⟨e0,e1,e2,e3,e4,e5,e6⟩:=zI G1.out
      obtain ⟨g0,g1,g2⟩:=zD G2.out
      have z0:=free_at G1.out
      have z1:=free_at G2.out
      go_wp2_with fail
      go_region
      all_goals (
        (try go_wp2_with fail)
        first
        | (obtain ⟨s1,s2,s3⟩:=zEv (S:=only B) (w0:=w) (g:=w.heap.size) (g2:=w.heap.size + 1) (by omega) G1.out G2.out (.int .i64 a0) (.int .i64 a1) (.int .i64 a2) (.int .i64 a3) (.int .i64 a4) (.int .i64 a5) (.int .i64 a6) (.int .i64 0) (.int .i64 0) (.int .u64 0) F5.out (by omega) (by omega)
           refine zzb (zS rfl _ _ w.heap.size (w.heap.size + 1) 38 33 _ _ (0,0) (0,0) _ _ rfl (zU s1) underlying38 rfl (by kernel_rfl) rfl (zU s2) underlying33 rfl (by kernel_rfl)) rfl ?_
           exact ⟨_,HAN.out,rfl,⟨_,_,((HC5.out.bl7 (by omega) (by omega) _ _ _ _ _ _ _).bl3 (by omega) (by omega) _ _ _).bl ((Bl.refl _).drew),HK4.out,HI4.out⟩,s3.drew⟩)
        | (obtain ⟨s1,s2,s3⟩:=zHi (S:=only B) (w0:=w) (g:=w.heap.size) (g2:=w.heap.size + 1) (by omega) G1.out G2.out (.int .i64 a0) (.int .i64 a1) (.int .i64 a2) (.int .i64 a3) (.int .i64 a4) (.int .i64 a5) (.int .i64 a6) (.int .i64 0) (.int .i64 0) (.int .u64 0) F5.out (by omega) (by omega)
           refine zzb (zS rfl _ _ w.heap.size (w.heap.size + 1) 38 33 _ _ (0,0) (0,0) _ _ rfl (zU s1) underlying38 rfl (by kernel_rfl) rfl (zU s2) underlying33 rfl (by kernel_rfl)) rfl ?_
           exact ⟨_,HAN.out,rfl,⟨_,_,((HC5.out.bl3 (by omega) (by omega) _ _ _).bl7 (by omega) (by omega) _ _ _ _ _ _ _).bl ((Bl.refl _).drew),HK4.out,HI4.out⟩,s3.drew⟩))
    · have tk:(sk == 0) = false:=by simp [hsk]
      clear hsk CK
      clear e0 e1 e2 e3 e4 e5 e6 g0 g1 g2 z0 z1
      obtain ⟨e0,e1,e2,e3,e4,e5,e6⟩:=zI S1.out
      obtain ⟨g0,g1,g2⟩:=zD S2.out
      have z0:=free_at S1.out
      have z1:=free_at S2.out
      go_wp2_with fail
      go_region
      all_goals (
        (try go_wp2_with fail)
        first
        | (obtain ⟨s1,s2,s3⟩:=zEv (S:=only B) (w0:=w) (g:=w.heap.size) (g2:=w.heap.size + 1) (by omega) S1.out S2.out (.int .i64 a0) (.int .i64 a1) (.int .i64 a2) (.int .i64 a3) (.int .i64 a4) (.int .i64 a5) (.int .i64 a6) (.int .i64 sk) (.int .i64 fk) (.int .u64 fa) S3.out (by omega) (by omega)
           refine zzb (zS rfl _ _ w.heap.size (w.heap.size + 1) 38 33 _ _ (0,0) (0,0) _ _ rfl (zU s1) underlying38 rfl (by kernel_rfl) rfl (zU s2) underlying33 rfl (by kernel_rfl)) rfl ?_
           exact ⟨_,HAN.out,rfl,⟨_,_,((HC4.out.bl7 (by omega) (by omega) _ _ _ _ _ _ _).bl3 (by omega) (by omega) _ _ _).bl ((Bl.refl _).drew),hk1',HI1.out⟩,s3.drew⟩)
        | (obtain ⟨s1,s2,s3⟩:=zHi (S:=only B) (w0:=w) (g:=w.heap.size) (g2:=w.heap.size + 1) (by omega) S1.out S2.out (.int .i64 a0) (.int .i64 a1) (.int .i64 a2) (.int .i64 a3) (.int .i64 a4) (.int .i64 a5) (.int .i64 a6) (.int .i64 sk) (.int .i64 fk) (.int .u64 fa) S3.out (by omega) (by omega)
           refine zzb (zS rfl _ _ w.heap.size (w.heap.size + 1) 38 33 _ _ (0,0) (0,0) _ _ rfl (zU s1) underlying38 rfl (by kernel_rfl) rfl (zU s2) underlying33 rfl (by kernel_rfl)) rfl ?_
           exact ⟨_,HAN.out,rfl,⟨_,_,((HC4.out.bl3 (by omega) (by omega) _ _ _).bl7 (by omega) (by omega) _ _ _ _ _ _ _).bl ((Bl.refl _).drew),hk1',HI1.out⟩,s3.drew⟩))
theorem fetch_off (h:COff w cb) (hm:MS T w sb n L M st mo ba en) (hT:Td.zBk w) (pc:Nat) (hpc:pc < 2 ^ 64) :
    Calls prog 50 #[zB cb,zB sb,.int .u64 (pc:Int)] w (OffPost L M pc w):=by
  have K0:=hid ((Bl.new w (.cells (Td.I7 0 0 0 0 0 0 0) 38)).alloc (.cells #[.int .i64 0,.int .i64 0,.int .u64 0] 33))
  have A0:=hid ((Bl.new (w.alloc (.cells (Td.I7 0 0 0 0 0 0 0) 38)) (.cells #[.int .i64 0,.int .i64 0,.int .u64 0] 33)).at_ (zzn w (.cells (Td.I7 0 0 0 0 0 0 0) 38)))
  have A1:=hid (zBB w (.cells (Td.I7 0 0 0 0 0 0 0) 38) (.cells #[.int .i64 0,.int .i64 0,.int .u64 0] 33))
  have hpcI:(pc:Int) ≤ 18446744073709551615:=by omega
  have cf:=find_off (h.bl K0.out) sb pc hpc
  have cd:=fun W (k:Bl w W)=>zGI (hm.bl k) (hT.bl k) pc hpc
  have ck:=fun W i (kk:Bl w W)=>keep_off (h.bl kk) sb pc i
  clear hm hT h
  have CF:=hid cf;clear cf
  have CD:=hid cd;clear cd
  have CK:=hid ck;clear ck
  unfold zB at *
  go_enter func50,ntmps50
  go_wp2_with fail
  with_reducible refine CF.out.mono ?_
  rintro e w1 ⟨rfl,hf⟩
  · have F1:=hid (K0.out.trans hf)
    have B0:=hid (hf.at_ A0.out)
    have B1:=hid (hf.at_ A1.out)
    have hlt1:w.heap.size + 1 < w1.heap.size:=zG B1.out
    clear hf CF
    go_upto_region 2 with (fail)
    have F2:=hid (F1.out.trans (Bl.new w1 (.cells (Td.I7 0 0 0 0 0 0 0) 38)))
    have C0:=hid ((Bl.new w1 (.cells (Td.I7 0 0 0 0 0 0 0) 38)).at_ B0.out)
    have C1:=hid ((Bl.new w1 (.cells (Td.I7 0 0 0 0 0 0 0) 38)).at_ B1.out)
    generalize w1.alloc (.cells (Td.I7 0 0 0 0 0 0 0) 38) = W at *
    go_wp2_with fail
    with_reducible refine (CD.out _ F2.out).mono ?_
    rintro e w2 ⟨⟨⟨a0,a1,a2,a3,a4,a5,a6⟩,sk,fk,fa⟩,han,rfl,kk⟩
    unfold Ans.v zJf Td.Ins.cells
    have HAN:=hid han;clear han
    have F3:=hid (F2.out.trans kk)
    have E0:=hid (kk.at_ C0.out)
    have E1:=hid (kk.at_ C1.out)
    have hlt2:w.heap.size + 1 < w2.heap.size:=zG E1.out
    obtain ⟨e0,e1,e2,e3,e4,e5,e6⟩:=zI E0.out
    obtain ⟨g0,g1,g2⟩:=zD E1.out
    have z0:=free_at E0.out
    have z1:=free_at E1.out
    clear kk CD
    go_upto_region 5 with (fail)
    obtain ⟨s1,s2,s3⟩:=zBs (w0:=w) (g:=w.heap.size) (g2:=w.heap.size + 1) (by omega) E0.out E1.out (.int .i64 a0) (.int .i64 a1) (.int .i64 a2) (.int .i64 a3) (.int .i64 a4) (.int .i64 a5) (.int .i64 a6) (.int .i64 sk) (.int .i64 fk) (.int .u64 fa) F3.out (by omega) (by omega)
    have S1:=hid s1;clear s1
    have S2:=hid s2;clear s2
    have S3:=hid s3;clear s3
    clear e0 e1 e2 e3 e4 e5 e6 g0 g1 g2 z0 z1
    generalize ((((((((((w2.setCell ⟨w.heap.size,0,none⟩ (.int .i64 a0)).setCell ⟨w.heap.size,1,none⟩ (.int .i64 a1)).setCell ⟨w.heap.size,2,none⟩ (.int .i64 a2)).setCell ⟨w.heap.size,3,none⟩ (.int .i64 a3)).setCell ⟨w.heap.size,4,none⟩ (.int .i64 a4)).setCell ⟨w.heap.size,5,none⟩ (.int .i64 a5)).setCell ⟨w.heap.size,6,none⟩ (.int .i64 a6)).setCell ⟨w.heap.size + 1,0,none⟩ (.int .i64 sk)).setCell ⟨w.heap.size + 1,1,none⟩ (.int .i64 fk)).setCell ⟨w.heap.size + 1,2,none⟩ (.int .u64 fa)) = V at *
    obtain ⟨e0,e1,e2,e3,e4,e5,e6⟩:=zI S1.out
    obtain ⟨g0,g1,g2⟩:=zD S2.out
    have z0:=free_at S1.out
    have z1:=free_at S2.out
    by_cases hsk:sk = 0
    · subst hsk
      obtain ⟨rfl,rfl⟩:=ans_ok HAN.out
      go_wp2_with fail
      with_reducible refine (CK.out V ⟨a0,a1,a2,a3,a4,a5,a6⟩ S3.out).mono ?_
      rintro e w4 ⟨rfl,kk⟩
      have F5:=hid (S3.out.trans kk)
      have G1:=hid (kk.at_ S1.out)
      have G2:=hid (kk.at_ S2.out)
      clear kk
      clear e0 e1 e2 e3 e4 e5 e6 g0 g1 g2 z0 z1
      obtain ⟨e0,e1,e2,e3,e4,e5,e6⟩:=zI G1.out
      obtain ⟨g0,g1,g2⟩:=zD G2.out
      have z0:=free_at G1.out
      have z1:=free_at G2.out
      go_wp2_with fail
      go_region
      all_goals (
        (try go_wp2_with fail)
        first
        | (obtain ⟨s1,s2,s3⟩:=zBs (w0:=w) (g:=w.heap.size) (g2:=w.heap.size + 1) (by omega) G1.out G2.out (.int .i64 a0) (.int .i64 a1) (.int .i64 a2) (.int .i64 a3) (.int .i64 a4) (.int .i64 a5) (.int .i64 a6) (.int .i64 0) (.int .i64 0) (.int .u64 0) F5.out (by omega) (by omega)
           refine zzb (zS rfl _ _ w.heap.size (w.heap.size + 1) 38 33 _ _ (0,0) (0,0) _ _ rfl (zU s1) underlying38 rfl (by kernel_rfl) rfl (zU s2) underlying33 rfl (by kernel_rfl)) rfl ?_
           exact ⟨_,HAN.out,rfl,s3.drew⟩)
        | (obtain ⟨s1,s2,s3⟩:=zEw (w0:=w) (g:=w.heap.size) (g2:=w.heap.size + 1) (by omega) G1.out G2.out (.int .i64 a0) (.int .i64 a1) (.int .i64 a2) (.int .i64 a3) (.int .i64 a4) (.int .i64 a5) (.int .i64 a6) (.int .i64 0) (.int .i64 0) (.int .u64 0) F5.out (by omega) (by omega)
           refine zzb (zS rfl _ _ w.heap.size (w.heap.size + 1) 38 33 _ _ (0,0) (0,0) _ _ rfl (zU s1) underlying38 rfl (by kernel_rfl) rfl (zU s2) underlying33 rfl (by kernel_rfl)) rfl ?_
           exact ⟨_,HAN.out,rfl,s3.drew⟩))
    · have tk:(sk == 0) = false:=by simp [hsk]
      clear hsk CK
      clear e0 e1 e2 e3 e4 e5 e6 g0 g1 g2 z0 z1
      obtain ⟨e0,e1,e2,e3,e4,e5,e6⟩:=zI S1.out
      obtain ⟨g0,g1,g2⟩:=zD S2.out
      have z0:=free_at S1.out
      have z1:=free_at S2.out
      go_wp2_with fail
      go_region
      all_goals (
        (try go_wp2_with fail)
        first
        | (obtain ⟨s1,s2,s3⟩:=zBs (w0:=w) (g:=w.heap.size) (g2:=w.heap.size + 1) (by omega) S1.out S2.out (.int .i64 a0) (.int .i64 a1) (.int .i64 a2) (.int .i64 a3) (.int .i64 a4) (.int .i64 a5) (.int .i64 a6) (.int .i64 sk) (.int .i64 fk) (.int .u64 fa) S3.out (by omega) (by omega)
           refine zzb (zS rfl _ _ w.heap.size (w.heap.size + 1) 38 33 _ _ (0,0) (0,0) _ _ rfl (zU s1) underlying38 rfl (by kernel_rfl) rfl (zU s2) underlying33 rfl (by kernel_rfl)) rfl ?_
           exact ⟨_,HAN.out,rfl,s3.drew⟩)
        | (obtain ⟨s1,s2,s3⟩:=zEw (w0:=w) (g:=w.heap.size) (g2:=w.heap.size + 1) (by omega) S1.out S2.out (.int .i64 a0) (.int .i64 a1) (.int .i64 a2) (.int .i64 a3) (.int .i64 a4) (.int .i64 a5) (.int .i64 a6) (.int .i64 sk) (.int .i64 fk) (.int .u64 fa) S3.out (by omega) (by omega)
           refine zzb (zS rfl _ _ w.heap.size (w.heap.size + 1) 38 33 _ _ (0,0) (0,0) _ _ rfl (zU s1) underlying38 rfl (by kernel_rfl) rfl (zU s2) underlying33 rfl (by kernel_rfl)) rfl ?_
           exact ⟨_,HAN.out,rfl,s3.drew⟩))
end
theorem zKA (x c:Int) (hc:c=0∨c=1):bits .or .u64 (IntKind.u64.wrap (x*2)) c=x*2%18446744073709551616+c:=by
 rw [IntKind.wrap_u64];obtain ⟨A,hA⟩:=zze (show 0≤x*2%18446744073709551616 by omega);obtain ⟨C,hC⟩:=zze (show 0≤c by omega);have h2:A%2=0:=by omega
 have hC2:C<2:=by omega
 rw [hA,hC,u64_or_nat A C (by omega) (by omega),nat_join 1 A C (by simpa using h2) (by simpa using hC2),Int.natCast_add]
theorem zJQ (A c b:Int) (hb0:0<b) :
  (b≤A%b*2+c→c≤1→(A*2+c)/b=A/b*2+1∧(A*2+c)%b=A%b*2+c - b) ∧
  (A%b*2+c<b→0≤c→(A*2+c)/b=A/b*2∧(A*2+c)%b=A%b*2+c):=by
 have hr0:=Int.emod_nonneg A (Int.ne_of_gt hb0);have hr1:=Int.emod_lt_of_pos A hb0;have e:=Int.emod_add_mul_ediv A b
 constructor
 ·intro h hc;have e1:A*2+c=(A%b*2+c - b)+b*(A/b*2+1):=by rw [Int.mul_add,← Int.mul_assoc];omega
  rw [e1,Int.add_mul_ediv_left _ _ (Int.ne_of_gt hb0),Int.add_mul_emod_self_left,Int.ediv_eq_zero_of_lt (by omega) (by omega),Int.emod_eq_of_lt (by omega) (by omega)];omega
 ·intro h hc;have e1:A*2+c=(A%b*2+c)+b*(A/b*2):=by rw [← Int.mul_assoc];omega
  rw [e1,Int.add_mul_ediv_left _ _ (Int.ne_of_gt hb0),Int.add_mul_emod_self_left,Int.ediv_eq_zero_of_lt (by omega) (by omega),Int.emod_eq_of_lt (by omega) (by omega)];omega
theorem zJR (a:Int) (k:Nat) (hk:k<64):a/2^(64 - (k+1))=a/2^(64 - k)*2+a/2^(64 - (k+1))%2:=by
 have e:(2:Int)^(64 - k)=2^(64 - (k+1))*2:=by rw [← Int.pow_succ];congr 1;omega
 rw [e,← Int.ediv_ediv_of_nonneg (Int.le_of_lt (za _))];omega
theorem zJy (a:Int) (n:Nat) (h0:0≤a):0≤a/2^n∧a/2^n≤a:=
 ⟨Int.ediv_nonneg h0 (Int.le_of_lt (za _)),Int.ediv_le_self _ h0⟩
theorem zEn (a b:Int) (h0:0≤a) (hb:0<b):0≤a/b∧a/b≤a:=⟨Int.ediv_nonneg h0 (by omega),Int.ediv_le_self _ h0⟩
theorem zKX (a b q r c:Int) (k:Nat) (hk:k<64) (ha0:0≤a) (ha:a<18446744073709551616) (hb0:0<b) (hb:b<18446744073709551616)
  (hq:a/2^(64 - k)/b=q) (hr:a/2^(64 - k)%b=r) (hc:a/2^(64 - (k+1))%2=c)
  (h:zAs r=true∨b≤bits .or .u64 (IntKind.u64.wrap (r*2)) c) :
  bits .or .u64 (IntKind.u64.wrap (q*2)) 1=a/2^(64 - (k+1))/b∧IntKind.u64.wrap (bits .or .u64 (IntKind.u64.wrap (r*2)) c - b)=a/2^(64 - (k+1))%b:=by
 have hn:=zJR a k hk;rw [hc] at hn;have hc2:c=0∨c=1:=by omega
 have hr0:=Int.emod_nonneg (a/2^(64 - k)) (Int.ne_of_gt hb0);have hr1:=Int.emod_lt_of_pos (a/2^(64 - k)) hb0;have hp:=zJy a (64 - (k+1)) ha0;rw [zKA r c hc2] at h ⊢;rw [zKA q 1 (by omega),IntKind.wrap_u64];have hs:=(zJQ (a/2^(64 - k)) c b hb0).1;have hl:=zEn (a/2^(64 - (k+1))) b hp.1 hb0;rw [hq,hr] at hs;rw [hr] at hr0 hr1;rw [zBh r hr0 (by omega)] at h;generalize hA:a/2^(64 - (k+1))=A' at *;rw [← hn] at hs;have hs2:=hs (by omega) (by omega);omega
theorem div_no (a b q r c:Int) (k:Nat) (hk:k<64) (ha0:0≤a) (ha:a<18446744073709551616) (hb0:0<b) (hb:b<18446744073709551616)
  (hq:a/2^(64 - k)/b=q) (hr:a/2^(64 - k)%b=r) (hc:a/2^(64 - (k+1))%2=c)
  (h1:¬ zAs r=true) (h:bits .or .u64 (IntKind.u64.wrap (r*2)) c<b) :
  IntKind.u64.wrap (q*2)=a/2^(64 - (k+1))/b∧bits .or .u64 (IntKind.u64.wrap (r*2)) c=a/2^(64 - (k+1))%b:=by
 have hn:=zJR a k hk;rw [hc] at hn;have hc2:c=0∨c=1:=by omega
 have hr0:=Int.emod_nonneg (a/2^(64 - k)) (Int.ne_of_gt hb0);have hr1:=Int.emod_lt_of_pos (a/2^(64 - k)) hb0;have hp:=zJy a (64 - (k+1)) ha0;rw [zKA r c hc2] at h ⊢;rw [IntKind.wrap_u64];have hs:=(zJQ (a/2^(64 - k)) c b hb0).2;have hl:=zEn (a/2^(64 - (k+1))) b hp.1 hb0;rw [hq,hr] at hs;rw [hr] at hr0 hr1;rw [zBh r hr0 (by omega)] at h1;generalize hA:a/2^(64 - (k+1))=A' at *;rw [← hn] at hs;have hs2:=hs (by omega) (by omega);omega
theorem zEt (x:Int) (h0:0≤x) (h:x<18446744073709551616):bits .and .u64 x 4294967295=x%4294967296:=by
 obtain ⟨X,rfl⟩:=zze h0;have e:X &&& 4294967295=X%4294967296:=Nat.and_two_pow_sub_one_eq_mod X 32
 have:=u64_and_nat X 4294967295 (by omega) (by decide)
 rw [e] at this;exact this
theorem zCx (x y:Int) (hx0:0≤x) (hx:x≤4294967295) (hy0:0≤y) (hy:y≤4294967295):0≤x*y∧x*y≤18446744065119617025:=by
 refine ⟨Int.mul_nonneg hx0 hy0,?_⟩;have h1:=Int.mul_le_mul hx hy hy0 (by omega:(0:Int)≤4294967295);omega
theorem zFz (a b:Int):a*b=a/4294967296*(b/4294967296)*18446744073709551616+(a/4294967296*(b%4294967296)+a%4294967296*(b/4294967296))*4294967296+a%4294967296*(b%4294967296):=by
 have ea:=Int.emod_add_mul_ediv a 4294967296;have eb:=Int.emod_add_mul_ediv b 4294967296;generalize a/4294967296=a1 at *;generalize b/4294967296=b1 at *;generalize a%4294967296=a0 at *;generalize b%4294967296=b0 at *;rw [← ea,← eb,Int.add_mul,Int.mul_add,Int.mul_add];have e1:a0*(4294967296*b1)=a0*b1*4294967296:=by rw [Int.mul_comm 4294967296 b1,Int.mul_assoc]
 have e2:4294967296*a1*b0=a1*b0*4294967296:=by rw [Int.mul_assoc,Int.mul_comm]
 have e3:4294967296*a1*(4294967296*b1)=a1*b1*18446744073709551616:=by
  rw [Int.mul_comm 4294967296 b1,Int.mul_comm 4294967296 a1,Int.mul_assoc,← Int.mul_assoc 4294967296,Int.mul_comm 4294967296 b1,← Int.mul_assoc,← Int.mul_assoc,Int.mul_assoc (a1*b1)]
  rfl
 rw [e1,e2,e3];omega
theorem mulhi (a b:Int) (ha0:0≤a) (ha:a<18446744073709551616) (hb0:0≤b) (hb:b<18446744073709551616) :
  IntKind.u64.wrap (IntKind.u64.wrap (IntKind.u64.wrap (a/4294967296*(b/4294967296)) +
   IntKind.u64.wrap (IntKind.u64.wrap (a/4294967296*bits .and .u64 b 4294967295)+IntKind.u64.wrap (bits .and .u64 a 4294967295*bits .and .u64 b 4294967295)/4294967296)/4294967296) +
   IntKind.u64.wrap (bits .and .u64 (IntKind.u64.wrap (IntKind.u64.wrap (a/4294967296*bits .and .u64 b 4294967295)+IntKind.u64.wrap (bits .and .u64 a 4294967295*bits .and .u64 b 4294967295)/4294967296)) 4294967295 +
    IntKind.u64.wrap (bits .and .u64 a 4294967295*(b/4294967296)))/4294967296)=a*b/18446744073709551616:=by
 have hp:=zFz a b;have b1:=zCx (a/4294967296) (b/4294967296) (by omega) (by omega) (by omega) (by omega);have b2:=zCx (a/4294967296) (b%4294967296) (by omega) (by omega) (by omega) (by omega);have b3:=zCx (a%4294967296) (b/4294967296) (by omega) (by omega) (by omega) (by omega);have b4:=zCx (a%4294967296) (b%4294967296) (by omega) (by omega) (by omega) (by omega);rw [zEt a ha0 ha,zEt b hb0 hb,hp];generalize a/4294967296*(b/4294967296)=s at *;generalize a/4294967296*(b%4294967296)=q at *;generalize a%4294967296*(b/4294967296)=r at *;generalize a%4294967296*(b%4294967296)=p at *;simp only [IntKind.wrap_u64];have e1:s%18446744073709551616=s:=by omega
 have e2:q%18446744073709551616=q:=by omega
 have e3:r%18446744073709551616=r:=by omega
 have e4:p%18446744073709551616=p:=by omega
 have e5:(q+p/4294967296)%18446744073709551616=q+p/4294967296:=by omega
 rw [e1,e2,e3,e4,e5,zEt _ (by omega) (by omega)];omega
theorem zKF (a b:Int) (ha0:0≤a) (ha:a<18446744073709551616) (hb0:0≤b) (hb:b<18446744073709551616) :
  a*b/18446744073709551616<18446744073709551616∧0≤a*b/18446744073709551616:=by
 have hp:=zFz a b;have b1:=zCx (a/4294967296) (b/4294967296) (by omega) (by omega) (by omega) (by omega);have b2:=zCx (a/4294967296) (b%4294967296) (by omega) (by omega) (by omega) (by omega);have b3:=zCx (a%4294967296) (b/4294967296) (by omega) (by omega) (by omega) (by omega);have b4:=zCx (a%4294967296) (b%4294967296) (by omega) (by omega) (by omega) (by omega);omega
def zAf (x:Int):Int:=if zAs x then 18446744073709551616 - x else x
theorem zAr (x:Int) (h0:0≤x) (h:x<18446744073709551616) :
  0≤zAf x∧zAf x<18446744073709551616∧wrap64 x=(if zAs x then -zAf x else zAf x)∧(zAs x=true→wrap64 x=x - 18446744073709551616)∧(zAs x=false→wrap64 x=x):=by
 have hi:=zBh x h0 h;unfold zAf wrap64;cases hn:zAs x
 ·rw [hn] at hi;simp at hi;simp;omega
 ·rw [hn] at hi;simp at hi;simp;omega
def zGW (a b:Int):Int:=wrap64 a*wrap64 b/18446744073709551616%18446744073709551616
def zBj (a b:Int):Int:=wrap64 a*b/18446744073709551616%18446744073709551616
def zEd (a b:Int):Int:=if zAs a then b else 0
theorem mulhsu_word (a b:Int) (ha0:0≤a) (ha:a<18446744073709551616) :
  IntKind.u64.wrap (a*b/18446744073709551616 - zEd a b)=zBj a b:=by
 have hw:=zAr a ha0 ha;rw [IntKind.wrap_u64];unfold zEd zBj;cases hn:zAs a
 ·rw [hw.2.2.2.2 hn];simp
 ·rw [hw.2.2.2.1 hn,Int.sub_mul];simp;generalize a*b=X;omega
theorem mulh_word (a b:Int) (ha0:0≤a) (ha:a<18446744073709551616) (hb0:0≤b) (hb:b<18446744073709551616) :
  IntKind.u64.wrap (zBj a b - zEd b a)=zGW a b:=by
 have hw:=zAr a ha0 ha;have hv:=zAr b hb0 hb;rw [IntKind.wrap_u64];unfold zEd zBj zGW;cases hm:zAs b
 ·rw [hv.2.2.2.2 hm];simp
 ·cases hn:zAs a
  ·rw [hv.2.2.2.1 hm,hw.2.2.2.2 hn,Int.mul_sub];simp;generalize a*b=X;omega
  ·rw [hv.2.2.2.1 hm,hw.2.2.2.1 hn,Int.mul_sub,Int.sub_mul];simp;generalize a*b=X;omega
def zEi (a b:Int) (m:Bool):Int:=
 if m then (if a*b%18446744073709551616=0 then (-(a*b/18446744073709551616))%18446744073709551616 else (-1 - a*b/18446744073709551616)%18446744073709551616) else a*b/18446744073709551616
theorem zFY (a b:Int):zEi a b true=(-(a*b))/18446744073709551616%18446744073709551616:=by
 unfold zEi;simp only [if_true];generalize a*b=X
 split<;>omega
theorem zFX (a b:Int) (ha0:0≤a) (ha:a<18446744073709551616) (hb0:0≤b) (hb:b<18446744073709551616):zEi a b false=a*b/18446744073709551616%18446744073709551616:=by
 have:=zKF a b ha0 ha hb0 hb
 unfold zEi;simp only [Bool.false_eq_true,if_false];generalize a*b=X at *;omega
theorem mulh_ref (a b:Int) (ha0:0≤a) (ha:a<18446744073709551616) (hb0:0≤b) (hb:b<18446744073709551616) :
  zEi (zAf a) (zAf b) (zAs a != zAs b)=zGW a b:=by
 have hw:=zAr a ha0 ha;have hv:=zAr b hb0 hb;unfold zGW;rw [hw.2.2.1,hv.2.2.1];cases hn:zAs a<;>cases hm:zAs b
 ·simp [zFX _ _ hw.1 hw.2.1 hv.1 hv.2.1]
 ·simp [zFY,Int.mul_neg]
 ·simp [zFY,Int.neg_mul]
 ·simp [zFX _ _ hw.1 hw.2.1 hv.1 hv.2.1,Int.neg_mul_neg]
theorem mulhsu_ref (a b:Int) (ha0:0≤a) (ha:a<18446744073709551616) (hb0:0≤b) (hb:b<18446744073709551616) :
  zEi (zAf a) b (zAs a)=zBj a b:=by
 have hw:=zAr a ha0 ha;unfold zBj;rw [hw.2.2.1];cases hn:zAs a
 ·simp [zFX _ _ hw.1 hw.2.1 hb0 hb]
 ·simp [zFY,Int.neg_mul]
end Go.Proofs.YtlhpodholnfppaaGreatDoor
