/-
  Part of the proof.
-/
import Derived.Test.YtlhpodholnfppaaGreatDoorZ12
set_option linter.unusedVariables false
set_option linter.unusedSimpArgs false
set_option maxHeartbeats 16000000
set_option maxRecDepth 100000
set_option linter.defProp false
open Go.Lib (hid)
namespace Go.Proofs.YtlhpodholnfppaaGreatDoor.Td
open Go.RowKit
theorem zBe (a b:Nat) (ha:a<9223372036854775808) (hb:b<9223372036854775808):bits .or .i64 (a:Int) (b:Int)=((a ||| b:Nat):Int):=by
 have hx:a ||| b<2^63:=Nat.or_lt_two_pow (by omega) (by omega);show IntKind.i64.wrap ((BitVec.ofInt 64 (a:Int) ||| BitVec.ofInt 64 (b:Int)).toNat:Int)=_;rw [BitVec.toNat_or,ofInt_u64 a (by omega),ofInt_u64 b (by omega)];exact IntWalk.i64_in _ (by omega)
theorem zCR (s a m:Nat):tk s a m 0=(pc s a m:Nat):=by unfold tk;simp
theorem low32 (n:Int):low n 32=(n+2147483648)%4294967296 - 2147483648:=rfl
theorem low21 (n:Int):low n 21=(n+1048576)%2097152 - 1048576:=rfl
theorem low20' (n:Int):low n 20=(n+524288)%1048576 - 524288:=rfl
theorem low13 (n:Int):low n 13=(n+4096)%8192 - 4096:=rfl
theorem low12' (n:Int):low n 12=(n+2048)%4096 - 2048:=rfl
theorem imU (s:Nat):low (tk s 12 20 12) 32=low (pc s 12 20:Nat) 20*4096:=by
 have h:tk s 12 20 12=((pc s 12 20:Nat):Int)*4096:=by unfold tk;simp
 rw [h,low32,low20'];omega
theorem orJ (a b c d:Nat) (ha:a<2) (hb:b<256) (hc:c<2) (hd:d<1024) :
  bits .or .i64 (bits .or .i64 (bits .or .i64 ((a*2^20:Nat):Int) ((b*2^12:Nat):Int)) ((c*2^11:Nat):Int)) ((d*2^1:Nat):Int)=((a*1048576+b*4096+c*2048+d*2:Nat):Int):=by
 simp only [Nat.reducePow];rw [zBe (a*1048576) (b*4096) (by omega) (by omega),nat_join 20 (a*1048576) (b*4096) (by show a*1048576%1048576=0;omega) (by show b*4096<1048576;omega),
  zBe _ (c*2048) (by omega) (by omega),nat_join 12 (a*1048576+b*4096) (c*2048) (by show (a*1048576+b*4096)%4096=0;omega) (by show c*2048<4096;omega),
  zBe _ (d*2) (by omega) (by omega),nat_join 11 (a*1048576+b*4096+c*2048) (d*2) (by show (a*1048576+b*4096+c*2048)%2048=0;omega) (by show d*2<2048;omega)]
theorem orB (a b c d:Nat) (ha:a<2) (hb:b<2) (hc:c<64) (hd:d<16) :
  bits .or .i64 (bits .or .i64 (bits .or .i64 ((a*2^12:Nat):Int) ((b*2^11:Nat):Int)) ((c*2^5:Nat):Int)) ((d*2^1:Nat):Int)=((a*4096+b*2048+c*32+d*2:Nat):Int):=by
 simp only [Nat.reducePow];rw [zBe (a*4096) (b*2048) (by omega) (by omega),nat_join 12 (a*4096) (b*2048) (by show a*4096%4096=0;omega) (by show b*2048<4096;omega),
  zBe _ (c*32) (by omega) (by omega),nat_join 11 (a*4096+b*2048) (c*32) (by show (a*4096+b*2048)%2048=0;omega) (by show c*32<2048;omega),
  zBe _ (d*2) (by omega) (by omega),nat_join 5 (a*4096+b*2048+c*32) (d*2) (by show (a*4096+b*2048+c*32)%32=0;omega) (by show d*2<32;omega)]
theorem orS (a b:Nat) (ha:a<128) (hb:b<32):bits .or .i64 ((a*2^5:Nat):Int) ((b*2^0:Nat):Int)=((a*32+b:Nat):Int):=by
 simp only [Nat.reducePow,Nat.mul_one];rw [zBe (a*32) b (by omega) (by omega),nat_join 5 (a*32) b (by show a*32%32=0;omega) (by show b<32;omega)]
theorem imJ (s:Nat):low (bits .or .i64 (bits .or .i64 (bits .or .i64 (tk s 31 1 20) (tk s 12 8 12)) (tk s 20 1 11)) (tk s 21 10 1)) 21 =
  low ((((pc s 31 1:Nat)*256+(pc s 12 8:Nat))*2+(pc s 20 1:Nat))*1024+(pc s 21 10:Nat):Int) 20*2:=by
 have ha:pc s 31 1<2:=zF s 31 1;have hb:pc s 12 8<256:=zF s 12 8;have hc:pc s 20 1<2:=zF s 20 1;have hd:pc s 21 10<1024:=zF s 21 10;unfold tk;rw [orJ _ _ _ _ ha hb hc hd,low21,low20'];omega
theorem imB (s:Nat):low (bits .or .i64 (bits .or .i64 (bits .or .i64 (tk s 31 1 12) (tk s 7 1 11)) (tk s 25 6 5)) (tk s 8 4 1)) 13 =
  low ((((pc s 31 1:Nat)*2+(pc s 7 1:Nat))*64+(pc s 25 6:Nat))*16+(pc s 8 4:Nat):Int) 12*2:=by
 have ha:pc s 31 1<2:=zF s 31 1;have hb:pc s 7 1<2:=zF s 7 1;have hc:pc s 25 6<64:=zF s 25 6;have hd:pc s 8 4<16:=zF s 8 4;unfold tk;rw [orB _ _ _ _ ha hb hc hd,low13,low12'];omega
theorem imS (s:Nat):low (bits .or .i64 (tk s 25 7 5) (tk s 7 5 0)) 12=low ((pc s 25 7:Nat)*32+(pc s 7 5:Nat):Int) 12:=by
 have ha:pc s 25 7<128:=zF s 25 7;have hb:pc s 7 5<32:=zF s 7 5;unfold tk;rw [orS _ _ ha hb]
 congr 1
theorem zIx (o:Int) (s:Nat):(parts o s .up).cells=I7 o (pc s 7 5:Nat) 0 0 (low (pc s 12 20:Nat) 20*4096) 0 4:=by
 show I7 o (tk s 7 5 0) 0 0 (low (tk s 12 20 12) 32) 0 4=_;rw [imU,zCR]
theorem parts_jp (o:Int) (s:Nat):(parts o s .jp).cells=I7 o (pc s 7 5:Nat) 0 0 (low ((((pc s 31 1:Nat)*256+(pc s 12 8:Nat))*2+(pc s 20 1:Nat))*1024+(pc s 21 10:Nat):Int) 20*2) 0 4:=by
 rw [← imJ,← zCR];rfl
theorem zFB (o:Int) (s:Nat):(parts o s .im).cells=I7 o (pc s 7 5:Nat) (pc s 15 5:Nat) 0 (low (pc s 20 12:Nat) 12) 0 4:=by
 simp only [← zCR];rfl
theorem parts_br (o:Int) (s:Nat):(parts o s .br).cells=I7 o 0 (pc s 15 5:Nat) (pc s 20 5:Nat) (low ((((pc s 31 1:Nat)*2+(pc s 7 1:Nat))*64+(pc s 25 6:Nat))*16+(pc s 8 4:Nat):Int) 12*2) 0 4:=by
 rw [← imB,← zCR,← zCR];rfl
theorem parts_st (o:Int) (s:Nat):(parts o s .st).cells=I7 o 0 (pc s 15 5:Nat) (pc s 20 5:Nat) (low ((pc s 25 7:Nat)*32+(pc s 7 5:Nat):Int) 12) 0 4:=by
 rw [← imS,← zCR,← zCR];rfl
theorem zDP (o:Int) (s:Nat):(parts o s .rg).cells=I7 o (pc s 7 5:Nat) (pc s 15 5:Nat) (pc s 20 5:Nat) 0 0 4:=by
 simp only [← zCR];rfl
theorem parts_am (o:Int) (s:Nat):(parts o s .am).cells=I7 o (pc s 7 5:Nat) (pc s 15 5:Nat) (pc s 20 5:Nat) 0 (pc s 25 2:Nat) 4:=by
 simp only [← zCR];rfl
theorem zDO (o:Int) (s m:Nat):(parts o s (.sh m)).cells=I7 o (pc s 7 5:Nat) (pc s 15 5:Nat) 0 (pc s 20 m:Nat) 0 4:=by
 simp only [← zCR];rfl
theorem parts_ba (o:Int) (s:Nat):(parts o s .ba).cells=I7 o 0 0 0 0 0 4:=rfl
end Go.Proofs.YtlhpodholnfppaaGreatDoor.Td
namespace Go.Proofs.YtlhpodholnfppaaGreatDoor.Tr
open Go.Proofs.Tryz
open Go.RowKit
open Td
abbrev zGT (s:Nat) (w:World):Ending→World→Prop:=fun e w'=>e=.returned (.tuple #[.agg (dec s).cells,.bool (decide (opW s≠0))])∧Kp none w w'
variable {s:Nat} {w:World}
theorem zAI {o:Int} {fm:Fm} {A:Array Value} (hop:opW s=o) (hfm:fmW s=fm) (ho:(o==0)=false) (hA:(parts o s fm).cells=A)
 (h:Calls prog 15 #[.int .u32 s] w fun e w'=>e=.returned (.tuple #[.agg A,.bool true])∧Kp none w w'):Calls prog 15 #[.int .u32 s] w (zGT s w):=by
 have ho':o≠0:=by simpa using ho
 have e1:dec s=parts o s fm:=by unfold dec;rw [hop,hfm,if_neg ho']
 have e2:decide (opW s≠0)=true:=by rw [hop];simp [ho']
 unfold zGT;rw [e1,e2,hA];exact h
theorem zBC (hop:opW s=0)
 (h:Calls prog 15 #[.int .u32 s] w fun e w'=>e=.returned (.tuple #[.agg (I7 0 0 0 0 0 0 0),.bool false])∧Kp none w w'):Calls prog 15 #[.int .u32 s] w (zGT s w):=by
 have e1:dec s=zDh:=if_pos hop;have e2:decide (opW s≠0)=false:=by simp [hop]
 unfold zGT;rw [e1,e2];exact h
variable {a:Int}
theorem nb' {b:Int} (h:a≠b):(a==b)=false:=by simpa using h
theorem up_half (s:Nat):pc s 26 6=pc s 25 7/2:=by unfold pc;simp only [Nat.reducePow];omega
def lrB (o:Int) (z:Bool):Int:=if (o=63∨o=74)∧z=true then 0 else o
theorem lrOf_lrB (o:Int) (p:Nat):lrOf o p=lrB o (decide ((p:Int)≠0)):=by
 unfold lrOf lrB;by_cases h:p=0
 ·simp [h]
 ·have:((p:Int)≠0):=by omega
  simp [h,this]
theorem opU_eq:∀ f5:Nat,f5<32→∀ f3:Nat,f3<8→∀ z:Bool,opU f5 f3 z 11=lrB (if f3=2 then T17.getD f5 0 else if f3=3 then T18.getD f5 0 else 0) z:=by decide
theorem opA_opU (s:Nat):opA s (pc s 12 3)=opU (pc s 27 5) (pc s 12 3) (decide (((pc s 20 5:Nat):Int)≠0)) 11:=by
 rw [opU_eq _ (zF s 27 5) _ (zF s 12 3)];unfold opA;rw [lrOf_lrB]
theorem eq_T0:∀ f:Nat,f<8→T0.getD f 0=([4]:List Int).getD f 0:=by decide
theorem eq_T2:∀ f:Nat,f<8→T2.getD f 0=([11,12,13,14,15,16,17]:List Int).getD f 0:=by decide
theorem eq_T1:∀ f:Nat,f<8→T1.getD f 0=([5,6,0,0,7,8,9,10]:List Int).getD f 0:=by decide
theorem eq_T3:∀ f:Nat,f<8→T3.getD f 0=([18,19,20,21]:List Int).getD f 0:=by decide
theorem eq_T10:∀ f:Nat,f<8→T10.getD f 0=([85,86]:List Int).getD f 0:=by decide
theorem eq_T5:∀ f:Nat,f<8→T5.getD f 0=([32,0,0,0,0,38]:List Int).getD f 0:=by decide
theorem eq_T7:∀ f:Nat,f<8→T7.getD f 0=([45,47,0,0,0,48]:List Int).getD f 0:=by decide
theorem eq_T8:∀ f:Nat,f<8→T8.getD f 0=([46,0,0,0,0,49]:List Int).getD f 0:=by decide
theorem eq_T9:∀ f:Nat,f<8→T9.getD f 0=([58,0,0,0,59,60,61,62]:List Int).getD f 0:=by decide
theorem nz_T4:∀ f:Nat,f<8→(([31,33,34,35,36,37,39,40]:List Int).getD f 0==0)=false:=by decide
theorem nz_T6:∀ f:Nat,f<8→(([50,51,52,53,54,55,56,57]:List Int).getD f 0==0)=false:=by decide
theorem nz_T11:∀ f:Nat,f<8→f≠1→f≠5→(([22,0,23,24,25,0,26,27]:List Int).getD f 0==0)=false:=by decide
theorem z_W:∀ f:Nat,f<8→f≠0→f≠1→f≠5→([41]:List Int).getD f 0=0∧T15.getD f 0=0∧T16.getD f 0=0:=by decide
theorem pick_z (g f:Nat) (a b c:List Int) (ha:a.getD f 0=0) (hb:b.getD f 0=0) (hc:c.getD f 0=0):zCb g a b c f=0:=by
 unfold zCb;repeat' split
 all_goals first|assumption|rfl
theorem zJr (s:Nat) (w:World) (hs:s<4294967296):Calls prog 15 #[.int .u32 s] w (zGT s w):=by
 have hf:pc s 12 3<8:=zF s 12 3;have hg:pc s 25 7<128:=zF s 25 7;by_cases h55:pc s 0 7=55
 ·have hop:opW s=opC 55 (pc s 12 3) (pc s 25 7) s:=by unfold opW;rw [h55]
  have hfm:fmW s=fmC 55 (pc s 12 3):=by unfold fmW;rw [h55]
  exact zAI (o:=1) hop hfm (by decide) (zIx _ s) (ref_lui s w hs h55)
 by_cases h23:pc s 0 7=23
 ·have hop:opW s=opC 23 (pc s 12 3) (pc s 25 7) s:=by unfold opW;rw [h23]
  have hfm:fmW s=fmC 23 (pc s 12 3):=by unfold fmW;rw [h23]
  exact zAI (o:=2) hop hfm (by decide) (zIx _ s) (ref_auipc s w hs h23)
 by_cases h111:pc s 0 7=111
 ·have hop:opW s=opC 111 (pc s 12 3) (pc s 25 7) s:=by unfold opW;rw [h111]
  have hfm:fmW s=fmC 111 (pc s 12 3):=by unfold fmW;rw [h111]
  exact zAI (o:=3) hop hfm (by decide) (parts_jp _ s) (ref_jal s w hs h111)
 by_cases h103:pc s 0 7=103
 ·have hop:opW s=opC 103 (pc s 12 3) (pc s 25 7) s:=by unfold opW;rw [h103]
  have hfm:fmW s=fmC 103 (pc s 12 3):=by unfold fmW;rw [h103]
  have hop2:opW s=([4]:List Int).getD (pc s 12 3) 0:=hop.trans (eq_T0 _ hf);by_cases hz:([4]:List Int).getD (pc s 12 3) 0=0
  ·exact zBC (hop2.trans hz) (ref_jalr_z s w hs h103 hz)
  ·exact zAI hop2 hfm (nb' hz) (zFB _ s) (ref_jalr s w hs h103 (nb' hz))
 by_cases h99:pc s 0 7=99
 ·have hop:opW s=opC 99 (pc s 12 3) (pc s 25 7) s:=by unfold opW;rw [h99]
  have hfm:fmW s=fmC 99 (pc s 12 3):=by unfold fmW;rw [h99]
  have hop2:opW s=([5,6,0,0,7,8,9,10]:List Int).getD (pc s 12 3) 0:=hop.trans (eq_T1 _ hf);by_cases hz:([5,6,0,0,7,8,9,10]:List Int).getD (pc s 12 3) 0=0
  ·exact zBC (hop2.trans hz) (ref_branch_z s w hs h99 hz)
  ·exact zAI hop2 hfm (nb' hz) (parts_br _ s) (ref_branch s w hs h99 (nb' hz))
 by_cases h3:pc s 0 7=3
 ·have hop:opW s=opC 3 (pc s 12 3) (pc s 25 7) s:=by unfold opW;rw [h3]
  have hfm:fmW s=fmC 3 (pc s 12 3):=by unfold fmW;rw [h3]
  have hop2:opW s=([11,12,13,14,15,16,17]:List Int).getD (pc s 12 3) 0:=hop.trans (eq_T2 _ hf);by_cases hz:([11,12,13,14,15,16,17]:List Int).getD (pc s 12 3) 0=0
  ·exact zBC (hop2.trans hz) (ref_load_z s w hs h3 hz)
  ·exact zAI hop2 hfm (nb' hz) (zFB _ s) (ref_load s w hs h3 (nb' hz))
 by_cases h35:pc s 0 7=35
 ·have hop:opW s=opC 35 (pc s 12 3) (pc s 25 7) s:=by unfold opW;rw [h35]
  have hfm:fmW s=fmC 35 (pc s 12 3):=by unfold fmW;rw [h35]
  have hop2:opW s=([18,19,20,21]:List Int).getD (pc s 12 3) 0:=hop.trans (eq_T3 _ hf);by_cases hz:([18,19,20,21]:List Int).getD (pc s 12 3) 0=0
  ·exact zBC (hop2.trans hz) (ref_store_z s w hs h35 hz)
  ·exact zAI hop2 hfm (nb' hz) (parts_st _ s) (ref_store s w hs h35 (nb' hz))
 by_cases h15:pc s 0 7=15
 ·have hop:opW s=opC 15 (pc s 12 3) (pc s 25 7) s:=by unfold opW;rw [h15]
  have hfm:fmW s=fmC 15 (pc s 12 3):=by unfold fmW;rw [h15]
  have hop2:opW s=([85,86]:List Int).getD (pc s 12 3) 0:=hop.trans (eq_T10 _ hf);by_cases hz:([85,86]:List Int).getD (pc s 12 3) 0=0
  ·exact zBC (hop2.trans hz) (ref_fence_z s w hs h15 hz)
  ·exact zAI hop2 hfm (nb' hz) (parts_ba _ s) (ref_fence s w hs h15 (nb' hz))
 by_cases h47:pc s 0 7=47
 ·have hop:opW s=opC 47 (pc s 12 3) (pc s 25 7) s:=by unfold opW;rw [h47]
  have hfm:fmW s=fmC 47 (pc s 12 3):=by unfold fmW;rw [h47]
  have hop2:opW s=(opU (pc s 27 5) (pc s 12 3) (decide (((pc s 20 5:Nat):Int)≠0)) 11):=hop.trans (opA_opU s);by_cases hz:(opU (pc s 27 5) (pc s 12 3) (decide (((pc s 20 5:Nat):Int)≠0)) 11)=0
  ·exact zBC (hop2.trans hz) (ref_atomic_z s w hs h47 hz)
  ·exact zAI hop2 hfm (nb' hz) (parts_am _ s) (ref_atomic s w hs h47 (nb' hz))
 by_cases h115:pc s 0 7=115
 ·have hop:opW s=opC 115 (pc s 12 3) (pc s 25 7) s:=by unfold opW;rw [h115]
  have hfm:fmW s=fmC 115 (pc s 12 3):=by unfold fmW;rw [h115]
  by_cases h1:s=115
  ·have hop2:opW s=87:=hop.trans (if_pos h1);exact zAI hop2 hfm (by decide) rfl (ref_ecall s w hs h115 (by simp [h1]) (by simp [h1]))
  ·by_cases h2:s=1048691
   ·have hop2:opW s=88:=hop.trans ((if_neg h1).trans (if_pos h2));exact zAI hop2 hfm (by decide) rfl (ref_ebreak s w hs h115 (by simp [h2]) (by simp [h2]))
   ·have hop2:opW s=0:=hop.trans ((if_neg h1).trans (if_neg h2));exact zBC hop2 (ref_system s w hs h115 (nb h1) (nb h2))
 by_cases h51:pc s 0 7=51
 ·have hop:opW s=opC 51 (pc s 12 3) (pc s 25 7) s:=by unfold opW;rw [h51]
  have hfm:fmW s=fmC 51 (pc s 12 3):=by unfold fmW;rw [h51]
  by_cases h7_0:pc s 25 7=0
  ·have hop2:opW s=([31,33,34,35,36,37,39,40]:List Int).getD (pc s 12 3) 0:=hop.trans ((zEq h7_0).trans rfl);exact zAI hop2 hfm (nz_T4 _ hf) (zDP _ s) (ref_plain_a s w hs h51 h7_0 (nz_T4 _ hf))
  by_cases h7_32:pc s 25 7=32
  ·have hop2:opW s=([32,0,0,0,0,38]:List Int).getD (pc s 12 3) 0:=hop.trans ((zEp h7_32).trans (eq_T5 _ hf));by_cases hz:([32,0,0,0,0,38]:List Int).getD (pc s 12 3) 0=0
   ·exact zBC (hop2.trans hz) (ref_plain_b_z s w hs h51 h7_32 hz)
   ·exact zAI hop2 hfm (nb' hz) (zDP _ s) (ref_plain_b s w hs h51 h7_32 (nb' hz))
  by_cases h7_1:pc s 25 7=1
  ·have hop2:opW s=([50,51,52,53,54,55,56,57]:List Int).getD (pc s 12 3) 0:=hop.trans ((zGo h7_1).trans rfl);exact zAI hop2 hfm (nz_T6 _ hf) (zDP _ s) (ref_plain_p s w hs h51 h7_1 (nz_T6 _ hf))
  have hop2:opW s=0:=hop.trans ((zEo h7_0 h7_32 h7_1 hf).trans (z8 _ hf));exact zBC hop2 (ref_plain_c s w hs h51 (nb h7_0) (nb h7_32) (nb h7_1))
 by_cases h59:pc s 0 7=59
 ·have hop:opW s=opC 59 (pc s 12 3) (pc s 25 7) s:=by unfold opW;rw [h59]
  have hfm:fmW s=fmC 59 (pc s 12 3):=by unfold fmW;rw [h59]
  by_cases h7_0:pc s 25 7=0
  ·have hop2:opW s=([45,47,0,0,0,48]:List Int).getD (pc s 12 3) 0:=hop.trans ((zEq h7_0).trans (eq_T7 _ hf));by_cases hz:([45,47,0,0,0,48]:List Int).getD (pc s 12 3) 0=0
   ·exact zBC (hop2.trans hz) (ref_narrow_a_z s w hs h59 h7_0 hz)
   ·exact zAI hop2 hfm (nb' hz) (zDP _ s) (ref_narrow_a s w hs h59 h7_0 (nb' hz))
  by_cases h7_32:pc s 25 7=32
  ·have hop2:opW s=([46,0,0,0,0,49]:List Int).getD (pc s 12 3) 0:=hop.trans ((zEp h7_32).trans (eq_T8 _ hf));by_cases hz:([46,0,0,0,0,49]:List Int).getD (pc s 12 3) 0=0
   ·exact zBC (hop2.trans hz) (ref_narrow_b_z s w hs h59 h7_32 hz)
   ·exact zAI hop2 hfm (nb' hz) (zDP _ s) (ref_narrow_b s w hs h59 h7_32 (nb' hz))
  by_cases h7_1:pc s 25 7=1
  ·have hop2:opW s=([58,0,0,0,59,60,61,62]:List Int).getD (pc s 12 3) 0:=hop.trans ((zGo h7_1).trans (eq_T9 _ hf));by_cases hz:([58,0,0,0,59,60,61,62]:List Int).getD (pc s 12 3) 0=0
   ·exact zBC (hop2.trans hz) (ref_narrow_p_z s w hs h59 h7_1 hz)
   ·exact zAI hop2 hfm (nb' hz) (zDP _ s) (ref_narrow_p s w hs h59 h7_1 (nb' hz))
  have hop2:opW s=0:=hop.trans ((zEo h7_0 h7_32 h7_1 hf).trans (z8 _ hf));exact zBC hop2 (ref_narrow_c s w hs h59 (nb h7_0) (nb h7_32) (nb h7_1))
 by_cases h19:pc s 0 7=19
 ·have hop:opW s=opC 19 (pc s 12 3) (pc s 25 7) s:=by unfold opW;rw [h19]
  have hfm:fmW s=fmC 19 (pc s 12 3):=by unfold fmW;rw [h19]
  have hu:=up_half s;by_cases h5:pc s 12 3=1∨pc s 12 3=5
  ·have hop1:opW s=zCb (pc s 25 7/2*2) T12 T13 Z8 (pc s 12 3):=hop.trans (if_pos h5);have hfm1:fmW s=.sh 6:=hfm.trans (if_pos h5);by_cases ha:pc s 26 6=0
   ·have e:opW s=T12.getD (pc s 12 3) 0:=hop1.trans (zEq (by omega));rcases h5 with h|h
    ·rw [h] at e;exact zAI (o:=28) e hfm1 (by decide) (zDO _ s 6) (ref_imm19_0 s w hs h19 h ha)
    ·rw [h] at e;exact zAI (o:=29) e hfm1 (by decide) (zDO _ s 6) (ref_imm19_1 s w hs h19 h ha)
   ·by_cases hb:pc s 26 6=16
    ·have e:opW s=T13.getD (pc s 12 3) 0:=hop1.trans (zEp (by omega));rcases h5 with h|h
     ·rw [h] at e;exact zBC e (zFn s w hs h19 h (nb ha))
     ·rw [h] at e;exact zAI (o:=30) e hfm1 (by decide) (zDO _ s 6) (ref_imm19_2 s w hs h19 h hb)
    ·have e:opW s=0:=hop1.trans ((zEo (by omega) (by omega) (by omega) hf).trans (z8 _ hf));rcases h5 with h|h
     ·exact zBC e (zFn s w hs h19 h (nb ha))
     ·exact zBC e (ref_imm19_4 s w hs h19 h (nb ha) (nb hb))
  ·have hop1:opW s=T11.getD (pc s 12 3) 0:=hop.trans (if_neg h5);have hfm1:fmW s=.im:=hfm.trans (if_neg h5);have n1:pc s 12 3≠1:=fun h=>h5 (.inl h)
   have n5:pc s 12 3≠5:=fun h=>h5 (.inr h)
   exact zAI hop1 hfm1 (nz_T11 _ hf n1 n5) (zFB _ s) (ref_imm19 s w hs h19 (nb n1) (nb n5) (nz_T11 _ hf n1 n5))
 by_cases h27:pc s 0 7=27
 ·have hop:opW s=opC 27 (pc s 12 3) (pc s 25 7) s:=by unfold opW;rw [h27]
  have hfm:fmW s=fmC 27 (pc s 12 3):=by unfold fmW;rw [h27]
  by_cases h0:pc s 12 3=0
  ·have hop1:opW s=41:=hop.trans (if_pos h0);have hfm1:fmW s=.im:=hfm.trans (if_pos h0);have e:([41]:List Int).getD (pc s 12 3) 0=41:=by rw [h0];rfl
   have r:=ref_imm27 s w hs h27 (nb (a:=pc s 12 3) (b:=1) (by omega)) (nb (a:=pc s 12 3) (b:=5) (by omega)) (by rw [e];rfl);rw [e] at r;exact zAI hop1 hfm1 (by decide) (zFB _ s) r
  ·have hop1:opW s=zCb (pc s 25 7) T15 T16 Z8 (pc s 12 3):=hop.trans (if_neg h0);have hfm1:fmW s=.sh 5:=hfm.trans (if_neg h0);by_cases h5:pc s 12 3=1∨pc s 12 3=5
   ·by_cases ha:pc s 25 7=0
    ·have e:opW s=T15.getD (pc s 12 3) 0:=hop1.trans (zEq ha);rcases h5 with h|h
     ·rw [h] at e;exact zAI (o:=42) e hfm1 (by decide) (zDO _ s 5) (ref_imm27_0 s w hs h27 h ha)
     ·rw [h] at e;exact zAI (o:=43) e hfm1 (by decide) (zDO _ s 5) (ref_imm27_1 s w hs h27 h ha)
    ·by_cases hb:pc s 25 7=32
     ·have e:opW s=T16.getD (pc s 12 3) 0:=hop1.trans (zEp hb);rcases h5 with h|h
      ·rw [h] at e;exact zBC e (zFm s w hs h27 h (nb ha))
      ·rw [h] at e;exact zAI (o:=44) e hfm1 (by decide) (zDO _ s 5) (ref_imm27_2 s w hs h27 h hb)
     ·have e:opW s=0:=by
       by_cases hp:pc s 25 7=1
       ·exact hop1.trans ((zGo hp).trans (z8 _ hf))
       ·exact hop1.trans ((zEo ha hb hp hf).trans (z8 _ hf))
      rcases h5 with h|h
      ·exact zBC e (zFm s w hs h27 h (nb ha))
      ·exact zBC e (ref_imm27_4 s w hs h27 h (nb ha) (nb hb))
   ·have n1:pc s 12 3≠1:=fun h=>h5 (.inl h)
    have n5:pc s 12 3≠5:=fun h=>h5 (.inr h)
    obtain ⟨z1,z2,z3⟩:=z_W _ hf h0 n1 n5;have e:opW s=0:=hop1.trans (pick_z _ _ _ _ _ z2 z3 (z8 _ hf));exact zBC e (ref_imm27_z s w hs h27 (nb n1) (nb n5) z1)
 have hop:opW s=0:=by unfold opW opC;rw [if_neg h55,if_neg h23,if_neg h111,if_neg h103,if_neg h99,if_neg h3,if_neg h35,if_neg h19,if_neg h51,if_neg h27,if_neg h59,if_neg h47,if_neg h15,if_neg h115]
 exact zBC hop (ref_none s w hs (nb h55) (nb h23) (nb h111) (nb h103) (nb h3) (nb h99) (nb h35) (nb h19) (nb h27) (nb h51) (nb h59) (nb h47) (nb h15) (nb h115))
end Go.Proofs.YtlhpodholnfppaaGreatDoor.Tr
namespace Go.Proofs.YtlhpodholnfppaaGreatDoor.Td
open Go.Proofs.Tryz
open Go.RowKit
def acc (s:Nat) (ps:List (Nat × Nat)):Nat→Nat
 | 0=>0
 | j+1=>acc s ps j*2^((ps.getD j (0,0)).1+1 - (ps.getD j (0,0)).2)+pc s (ps.getD j (0,0)).2 ((ps.getD j (0,0)).1+1 - (ps.getD j (0,0)).2)
def bl (ps:List (Nat × Nat)):Nat→Nat
 | 0=>0
 | j+1=>bl ps j+((ps.getD j (0,0)).1+1 - (ps.getD j (0,0)).2)
variable {m n q s:Nat}
theorem zId {a:Nat} (h:n<2^m) (ha:a<2^q):n*2^q+a<2^(m+q):=by
 have h1:(n+1)*2^q≤2^m*2^q:=Nat.mul_le_mul_right _ h;rw [Nat.pow_add];rw [Nat.add_mul] at h1;omega
theorem zKh (s:Nat) (ps:List (Nat × Nat)):∀ j,acc s ps j<2^bl ps j
 | 0=>by simp [acc,bl]
 | j+1=>zId (zKh s ps j) (zF _ _ _)
theorem bl_le (ps:List (Nat × Nat)):∀ j k,bl ps j≤bl ps (j+k)
 | j,0=>zzr _
 | j,k+1=>Nat.le_trans (bl_le ps j k) (Nat.le_add_right _ _)
theorem zIV (h:n<2^m) (hm:m≤16):n<65536:=Nat.lt_of_lt_of_le h (Nat.pow_le_pow_right (n:=2) (by decide) hm)
theorem pc_one (s a:Nat):pc s a 1=s/2^a%2:=by unfold pc;simp
def Pairs (w:World) (b:Nat) (ps:List (Nat × Nat)):Prop:=∀ j,j<ps.length→w.cell? ⟨b,2*j,none⟩=some (.int .i64 ((ps.getD j (0,0)).1:Nat))∧w.cell? ⟨b,2*j+1,none⟩=some (.int .i64 ((ps.getD j (0,0)).2:Nat))
def Ranged (ps:List (Nat × Nat)):Prop:=∀ j,j<ps.length→(ps.getD j (0,0)).2≤(ps.getD j (0,0)).1∧(ps.getD j (0,0)).1≤15
theorem pieces_any (s:Nat) (ps:List (Nat × Nat)) (z b len cap:Nat) (w:World) (hs:s<65536) (hlen:2*ps.length=len) (hz:z≤12) (hl:len≤100) (hbl:bl ps ps.length≤16) (hP:Pairs w b ps) (hR:Ranged ps) :
  Calls prog 92 #[.int .u16 s,.slice (some ⟨b,0,none⟩) len cap,.int .i64 z] w fun e w'=>e=.returned (.int .i64 ((acc s ps ps.length*2^z:Nat):Int))∧w=w':=by
 have HP:=hid hP;have HR:=hid hR;clear hP hR;have HB:Hid (∀ j,j≤ps.length→bl ps j≤16):=hid (fun j hj=>by
  have:=bl_le ps j (ps.length - j)
  rw [show j+(ps.length - j)=ps.length by omega] at this
  omega)
 have HF:=hid (fun (j:Nat) (w:World) (hj:j≤31)=>zAy s j j w (by omega) (zzr _) hj);clear hbl;have HL:=hid hlen;clear hlen;go_enter func92,ntmps92;go_wp2
 go_loop [7,8] (fun n k=>∃ j:Nat,j≤ps.length∧k=.int .i64 ((2*j:Nat):Int)∧n=.int .i64 ((acc s ps j:Nat):Int)) (fun n k=>200 - (intOf k).toNat)
 case atStart=>exact ⟨0,by omega,rfl,rfl⟩
 case round =>
  obtain ⟨j,hj,rfl,rfl⟩:=hrel;by_cases hlt:j<ps.length
  ·obtain ⟨c1,c2⟩:=HP.out j hlt;obtain ⟨r1,r2⟩:=HR.out j hlt;have HN:=hid (show acc s ps (j+1)=acc s ps j*2^((ps.getD j (0,0)).1+1 - (ps.getD j (0,0)).2)+pc s (ps.getD j (0,0)).2 ((ps.getD j (0,0)).1+1 - (ps.getD j (0,0)).2) from rfl);have hA:=zKh s ps j;have hm:bl ps j+((ps.getD j (0,0)).1+1 - (ps.getD j (0,0)).2)≤16:=HB.out (j+1) (by omega);generalize (ps.getD j (0,0)).1=hi at *;generalize (ps.getD j (0,0)).2=lo at *;generalize acc s ps j=A at *;generalize bl ps j=m at *;have HA:=hid hA;clear hA;obtain ⟨K,hK⟩:∃ K:Nat,2*j=K:=⟨_,rfl⟩;rw [hK] at c1 c2 ⊢;have hK1:(K:Int)+1<(len:Int):=by have:=HL.out;omega
   have HKK:=hid hK;clear hK;go_wp2
   go_loop [7,9] (fun n c=>∃ i:Nat,i≤hi+1 - lo∧c=.int .i64 ((hi:Int) - i)∧n=.int .i64 ((A*2^i+pc s (hi+1 - i) i:Nat):Int)) (fun n c=>(intOf c+1).toNat)
   case atStart=>exact ⟨0,by omega,by simp,by rw [zJw];simp⟩
   case round =>
    obtain ⟨i,hi',rfl,rfl⟩:=hrel;by_cases hl2:i<hi+1 - lo
    ·obtain ⟨d,hd⟩:∃ d:Nat,d+i=hi:=⟨hi - i,by omega⟩;have ed:(hi:Int) - (i:Int)=(d:Int):=by omega
     have ee:hi+1 - i=d+1:=by omega
     rw [ed,ee];have hb:A*2^i+pc s (d+1) i<65536:=zIV (zId HA.out (zF _ _ _)) (by omega);have hst:=hid (show (A*2^i+pc s (d+1) i)*2+pc s d 1=A*2^(i+1)+pc s d (i+1) by
      rw [← zJx s d i,pc_one,Nat.pow_succ,← Nat.mul_assoc];generalize A*2^i=q;generalize s/2^d%2=y;generalize pc s (d+1) i=x
      omega)
     have hF:=hid (fun w=>HF.out d w (by omega));rw [show d+1 - d=1 by omega] at hF;have hp1:pc s d 1<2:=zF s d 1;have hlo:(lo:Int)≤(d:Int):=by omega
     have hd15:(d:Int)≤15:=by omega
     have HD:=hid hd;have HEE:=hid (show hi+1 - (i+1)=d by omega);clear ed ee hd;generalize A*2^i+pc s (d+1) i=p at *;generalize pc s d 1=g at *;go_wp2_with fail;refine (hF.out _).mono ?_;rintro e w' ⟨rfl,rfl⟩;go_wp2
     go_round
     case rel =>
      refine ⟨i+1,by omega,?_,?_⟩
      ·have:=HD.out;first|(congr 1;omega)|omega|(congr 1)
      ·rw [HEE.out,← hst.out];go_num
     case measure=>simp [intOf]<;>omega
    ·obtain rfl:i=hi+1 - lo:=by omega
     have e1:(hi:Int) - ((hi+1 - lo:Nat):Int)=(lo:Int) - 1:=by omega
     have e2:hi+1 - (hi+1 - lo)=lo:=by omega
     rw [e1,e2];clear e1 e2;have hb:A*2^(hi+1 - lo)+pc s lo (hi+1 - lo)<65536:=zIV (zId HA.out (zF _ _ _)) hm;rw [← HN.out] at hb ⊢;go_wp2
     go_round
     case rel=>exact ⟨j+1,by omega,by have:=HKK.out;first|(congr 1;omega)|go_num,rfl⟩
     case measure=>have:=HL.out;have:=HKK.out;simp [intOf];omega
  ·obtain rfl:j=ps.length:=by omega
   have hA:acc s ps ps.length<65536:=zIV (zKh s ps _) (HB.out _ (zzr _));obtain ⟨A,eA⟩:∃ A,acc s ps ps.length=A:=⟨_,rfl⟩;rw [eA] at hA ⊢;have EA:=hid eA;clear eA;have e:=HL.out;rw [e];have hlen1:(len:Int)≤(len:Int)+1:=by omega
   clear e;go_wp2
   go_loop [7,2] (fun n c=>∃ i:Nat,i≤z∧c=.int .i64 ((z - i:Nat):Int)∧n=.int .i64 ((A*2^i:Nat):Int)) (fun n c=>(intOf c).toNat)
   case atStart=>exact ⟨0,by omega,by simp,by simp⟩
   case round =>
    obtain ⟨i,hi',rfl,rfl⟩:=hrel;have hp:A*2^i<65536*4096:=Nat.mul_lt_mul_of_lt_of_le hA (Nat.pow_le_pow_right (n:=2) (by decide) (show i≤12 by omega)) (by decide);by_cases hl2:i<z
    ·obtain ⟨d,hd⟩:∃ d:Nat,z - i=d+1:=⟨z - i - 1,by omega⟩;rw [hd];have HD:=hid (show z - (i+1)=d by omega);have hd12:(d:Int)≤12:=by omega
     have hst:=hid (show A*2^i*2=A*2^(i+1) by rw [Nat.pow_succ,Nat.mul_assoc]);clear hd;generalize A*2^i=p at *;go_wp2
     go_round
     case rel =>
      refine ⟨i+1,by omega,?_,?_⟩
      ·rw [HD.out];try go_num
      ·rw [← hst.out];go_num
     case measure=>simp [intOf]<;>omega
    ·obtain rfl:i=z:=by omega
     rw [Nat.sub_self];go_wp2;go_ret;exact ⟨zm (by rw [EA.out]),rfl⟩
def flat:List (Nat × Nat)→List Int
 | []=>[]
 | p :: r=>(p.1:Int) :: (p.2:Int) :: flat r
theorem zKU:∀ (ps:List (Nat × Nat)) (j:Nat),j<ps.length→(flat ps)[2*j]?=some ((ps.getD j (0,0)).1:Int)∧(flat ps)[2*j+1]?=some ((ps.getD j (0,0)).2:Int)
 | [],j,h=>by simp at h
 | p :: r,0,h=>by simp [flat]
 | p :: r,j+1,h=>by
  have:=zKU r j (by simpa using h)
  simpa [flat,Nat.mul_add] using this
theorem zAW (s:Nat) (ps:List (Nat × Nat)) (z v len:Nat) (w0 w1:World) (hw:w1=w0.alloc (.cells ((flat ps).map (Value.int .i64)).toArray 3)) (hs:s<65536) (hlen:2*ps.length=len) (hz:z≤12) (hl:len≤100)
  (hbl:bl ps ps.length≤16) (hR:∀ j,j<ps.length→(ps.getD j (0,0)).2≤(ps.getD j (0,0)).1∧(ps.getD j (0,0)).1≤15) (hv:acc s ps ps.length*2^z=v) :
  Calls prog 92 #[.int .u16 s,.slice (some ⟨w0.heap.size,0,none⟩) len len,.int .i64 z] w1 fun e w'=>e=.returned (.int .i64 (v:Int))∧w1=w':=by
 subst hw;rw [← hv];refine pieces_any s ps z _ len len _ hs hlen hz hl hbl (fun j hj=>?_) hR;obtain ⟨h1,h2⟩:=zKU ps j hj;rw [(Has.new w0 _ 3).cell,(Has.new w0 _ 3).cell];exact ⟨by simp [h1],by simp [h2]⟩
variable {cs:Array Value} {W w w1:World}
theorem FrR.alloc (h:FrR w cs w1) (c:Array Value) (t:TypeId):FrR w cs (w1.alloc (.cells c t)):=
 ⟨h.kp.alloc _ _,h.res.alloc _,h.box.alloc _⟩
theorem FrR.two (w:World) (cs:Array Value):FrR w cs ((w.alloc (.cells (I7 0 0 0 0 0 0 0) 38)).alloc (.cells cs 38)):=
 ⟨((Kp.refl _ _).alloc _ _).alloc _ _,(Has.new _ _ _).alloc _,by have:=Has.new (w.alloc (.cells (I7 0 0 0 0 0 0 0) 38)) cs 38;simpa using this⟩
theorem F_at (s hi lo m:Nat) (w:World) (hs:s<65536) (h1:lo≤hi) (h2:hi≤15) (hm:hi+1 - lo=m):Calls prog 35 #[.int .u32 s,.int .i64 hi,.int .i64 lo] w fun e w'=>e=.returned (.int .i64 ((pc s lo m:Nat):Int))∧w=w':=by
 rw [← hm];exact zAy s hi lo w (by omega) h1 (by omega)
theorem zHz (zs:List Int) (k:Nat) (w0 w1:World) (hw:w1=w0.alloc (.cells (zs.map (Value.int .i64)).toArray 3)) (hl:zs.length≤100) :
  Calls prog 37 #[.slice (some ⟨w0.heap.size,0,none⟩) zs.length zs.length,.int .i64 k] w1 fun e w'=>e=.returned (.int .i64 (zs.getD k 0))∧w1=w':=by
 subst hw;refine zKD _ zs zs.length zs.length k _ rfl hl (fun i hi=>?_);rw [(Has.new w0 _ 3).cell i];simp [zzg hi]
theorem moves_none (rd r2:Nat) (w:World) (hr:rd=0) (h2:r2=0):Calls prog 94 #[.int .i64 0,.int .i64 0,.int .i64 0] w fun e w'=>e=.returned (.agg (I7 0 0 0 0 0 0 0))∧Kp none w w':=by
 have k:=(Kp.refl none w).alloc (I7 0 0 0 0 0 0 0) 38;go_enter func94,ntmps94;go_wp2;refine zzb (Td.zAA rfl _ _ w.heap.size rfl (Has.new w _ 38) rfl) rfl ⟨rfl,?_⟩;exact (Kp.refl none w).alloc _ _
theorem moves_jr (rd r2:Nat) (w:World) (h2:r2=0) (hrd:((rd:Int)==0)=false):Calls prog 94 #[.int .i64 0,.int .i64 (rd:Int),.int .i64 0] w fun e w'=>e=.returned (.agg (I7 4 0 (rd:Int) 0 0 0 0))∧Kp none w w':=by
 have k:=(Kp.refl none w).alloc (I7 0 0 0 0 0 0 0) 38;go_enter func94,ntmps94;go_wp2;refine zzb (Td.zAA rfl _ _ w.heap.size rfl (Has.new w _ 38) rfl) rfl ⟨rfl,?_⟩;exact (Kp.refl none w).alloc _ _
theorem moves_mv (rd r2:Nat) (w:World) (hr2:((r2:Int)==0)=false):Calls prog 94 #[.int .i64 0,.int .i64 (rd:Int),.int .i64 (r2:Int)] w fun e w'=>e=.returned (.agg (I7 31 (rd:Int) 0 (r2:Int) 0 0 0))∧Kp none w w':=by
 have k:=(Kp.refl none w).alloc (I7 0 0 0 0 0 0 0) 38;go_enter func94,ntmps94;go_wp2;refine zzb (Td.zAA rfl _ _ w.heap.size rfl (Has.new w _ 38) rfl) rfl ⟨rfl,?_⟩;exact (Kp.refl none w).alloc _ _
theorem moves_break (rd r2:Nat) (w:World) (hr:rd=0) (h2:r2=0):Calls prog 94 #[.int .i64 1,.int .i64 0,.int .i64 0] w fun e w'=>e=.returned (.agg (I7 88 0 0 0 0 0 0))∧Kp none w w':=by
 have k:=(Kp.refl none w).alloc (I7 0 0 0 0 0 0 0) 38;go_enter func94,ntmps94;go_wp2;refine zzb (Td.zAA rfl _ _ w.heap.size rfl (Has.new w _ 38) rfl) rfl ⟨rfl,?_⟩;exact (Kp.refl none w).alloc _ _
theorem moves_jalr (rd r2:Nat) (w:World) (h2:r2=0) (hrd:((rd:Int)==0)=false):Calls prog 94 #[.int .i64 1,.int .i64 (rd:Int),.int .i64 0] w fun e w'=>e=.returned (.agg (I7 4 1 (rd:Int) 0 0 0 0))∧Kp none w w':=by
 have k:=(Kp.refl none w).alloc (I7 0 0 0 0 0 0 0) 38;go_enter func94,ntmps94;go_wp2;refine zzb (Td.zAA rfl _ _ w.heap.size rfl (Has.new w _ 38) rfl) rfl ⟨rfl,?_⟩;exact (Kp.refl none w).alloc _ _
theorem moves_addn (rd r2:Nat) (w:World) (hrd:((rd:Int)==0)=false) (hr2:((r2:Int)==0)=false):Calls prog 94 #[.int .i64 1,.int .i64 (rd:Int),.int .i64 (r2:Int)] w fun e w'=>e=.returned (.agg (I7 31 (rd:Int) (rd:Int) (r2:Int) 0 0 0))∧Kp none w w':=by
 have k:=(Kp.refl none w).alloc (I7 0 0 0 0 0 0 0) 38;go_enter func94,ntmps94;go_wp2;refine zzb (Td.zAA rfl _ _ w.heap.size rfl (Has.new w _ 38) rfl) rfl ⟨rfl,?_⟩;exact (Kp.refl none w).alloc _ _
theorem moves_addz (rd r2:Nat) (w:World) (hr:rd=0) (hr2:((r2:Int)==0)=false):Calls prog 94 #[.int .i64 1,.int .i64 0,.int .i64 (r2:Int)] w fun e w'=>e=.returned (.agg (I7 31 0 0 (r2:Int) 0 0 0))∧Kp none w w':=by
 have k:=(Kp.refl none w).alloc (I7 0 0 0 0 0 0 0) 38;go_enter func94,ntmps94;go_wp2;refine zzb (Td.zAA rfl _ _ w.heap.size rfl (Has.new w _ 38) rfl) rfl ⟨rfl,?_⟩;exact (Kp.refl none w).alloc _ _
theorem moves_add (rd r2:Nat) (w:World) (hr2:((r2:Int)==0)=false):Calls prog 94 #[.int .i64 1,.int .i64 (rd:Int),.int .i64 (r2:Int)] w fun e w'=>e=.returned (.agg (I7 31 (rd:Int) (rd:Int) (r2:Int) 0 0 0))∧Kp none w w':=by
 by_cases h:rd=0
 ·subst h;exact moves_addz 0 r2 w rfl hr2
 ·exact moves_addn rd r2 w (ne0 h) hr2
theorem eight_srli (s x:Nat) (a b:Int) (w:World) (hs:s<65536) (hx:x<64) (hj:pc s 10 2=0):Calls prog 93 #[.int .u16 s,.int .i64 a,.int .i64 b,.int .i64 (x:Int)] w fun e w'=>e=.returned (.agg (I7 29 a a 0 (x:Int) 0 0))∧Kp none w w':=by
 have CF:=hid (fun w=>F_at s 11 10 2 w hs (by decide) (by decide) rfl);rw [hj] at CF;have CS:=hid (fun w=>zIS (x:Int) 6 w (by decide) (by decide) (by omega) (by omega));have k:=(Kp.refl none w).alloc (I7 0 0 0 0 0 0 0) 38;clear hj;generalize low (x:Int) 6=d at *;go_enter func93,ntmps93;go_wp2_with fail;refine (CF.out _).mono ?_;rintro e w1 ⟨rfl,rfl⟩;go_wp2
 skip
 refine zzb (Td.zAA rfl _ _ w.heap.size rfl (Has.new w _ 38) rfl) rfl ⟨rfl,?_⟩;exact (Kp.refl none w).alloc _ _
theorem eight_srai (s x:Nat) (a b:Int) (w:World) (hs:s<65536) (hx:x<64) (hj:pc s 10 2=1):Calls prog 93 #[.int .u16 s,.int .i64 a,.int .i64 b,.int .i64 (x:Int)] w fun e w'=>e=.returned (.agg (I7 30 a a 0 (x:Int) 0 0))∧Kp none w w':=by
 have CF:=hid (fun w=>F_at s 11 10 2 w hs (by decide) (by decide) rfl);rw [hj] at CF;have CS:=hid (fun w=>zIS (x:Int) 6 w (by decide) (by decide) (by omega) (by omega));have k:=(Kp.refl none w).alloc (I7 0 0 0 0 0 0 0) 38;clear hj;generalize low (x:Int) 6=d at *;go_enter func93,ntmps93;go_wp2_with fail;refine (CF.out _).mono ?_;rintro e w1 ⟨rfl,rfl⟩;go_wp2
 skip
 refine zzb (Td.zAA rfl _ _ w.heap.size rfl (Has.new w _ 38) rfl) rfl ⟨rfl,?_⟩;exact (Kp.refl none w).alloc _ _
theorem eight_andi (s x:Nat) (a b:Int) (w:World) (hs:s<65536) (hx:x<64) (hj:pc s 10 2=2):Calls prog 93 #[.int .u16 s,.int .i64 a,.int .i64 b,.int .i64 (x:Int)] w fun e w'=>e=.returned (.agg (I7 27 a a 0 (low (x:Int) 6) 0 0))∧Kp none w w':=by
 have CF:=hid (fun w=>F_at s 11 10 2 w hs (by decide) (by decide) rfl);rw [hj] at CF;have CS:=hid (fun w=>zIS (x:Int) 6 w (by decide) (by decide) (by omega) (by omega));have k:=(Kp.refl none w).alloc (I7 0 0 0 0 0 0 0) 38;clear hj;generalize low (x:Int) 6=d at *;go_enter func93,ntmps93;go_wp2_with fail;refine (CF.out _).mono ?_;rintro e w1 ⟨rfl,rfl⟩;go_wp2_with fail;refine (CS.out _).mono ?_;rintro e w2 ⟨rfl,rfl⟩;go_wp2;refine zzb (Td.zAA rfl _ _ w.heap.size rfl (Has.new w _ 38) rfl) rfl ⟨rfl,?_⟩;exact (Kp.refl none w).alloc _ _
theorem eight_none (s x:Nat) (a b ro:Int) (w:World) (hs:s<65536) (hj:pc s 10 2=3) (hro:recT.getD (zCH s) 0=ro) (ho:ro=0):Calls prog 93 #[.int .u16 s,.int .i64 a,.int .i64 b,.int .i64 (x:Int)] w fun e w'=>e=.returned (.agg (I7 0 0 0 0 0 0 0))∧Kp none w w':=by
 have CF:=hid (fun w=>F_at s 11 10 2 w hs (by decide) (by decide) rfl);rw [hj] at CF;have CA:=hid (fun w=>F_at s 12 12 1 w hs (by decide) (by decide) rfl);have CB:=hid (fun w=>F_at s 6 5 2 w hs (by decide) (by decide) rfl);have hv:zCH s<8:=by
  have h1:pc s 12 1<2:=zF s 12 1;have h2:pc s 5 2<4:=zF s 5 2;unfold zCH;omega
 have hA:pc s 12 1<2:=zF s 12 1;have hB:pc s 5 2<4:=zF s 5 2;have hE:zCH s=pc s 12 1*4+pc s 5 2:=by unfold zCH;omega
 have heq:∀ n,n<8→([32,36,39,40,46,45]:List Int).getD n 0=recT.getD n 0:=by decide
 have CO:=hid (fun w0 w1 hw=>zHz [32,36,39,40,46,45] (zCH s) w0 w1 hw (by decide));rw [heq _ hv,hro,hE] at CO;subst ho;clear hj hv hE heq hro;generalize pc s 12 1=u at *;generalize pc s 5 2=v at *;have k:=(Kp.refl none w).alloc (I7 0 0 0 0 0 0 0) 38;have b0:=Has.new w (I7 0 0 0 0 0 0 0) 38;go_enter func93,ntmps93;go_wp2_with fail;refine (CF.out _).mono ?_;rintro e w1 ⟨rfl,rfl⟩;generalize w.alloc (.cells (I7 0 0 0 0 0 0 0) 38)=w1 at k b0 ⊢;go_wp2_with fail;refine (CA.out _).mono ?_;rintro e w2 ⟨rfl,rfl⟩;go_wp2_with fail;refine (CB.out _).mono ?_;rintro e w3 ⟨rfl,rfl⟩;go_wp2_with fail;refine (CO.out w1 _ (by rfl)).mono ?_;rintro e w4 ⟨rfl,rfl⟩;have k2:=k.alloc #[.int .i64 32,.int .i64 36,.int .i64 39,.int .i64 40,.int .i64 46,.int .i64 45] 3;have b2:=b0.alloc (.cells #[.int .i64 32,.int .i64 36,.int .i64 39,.int .i64 40,.int .i64 46,.int .i64 45] 3);generalize w1.alloc (.cells #[.int .i64 32,.int .i64 36,.int .i64 39,.int .i64 40,.int .i64 46,.int .i64 45] 3)=w5 at k2 b2 ⊢;obtain ⟨q0,q1,q2,q3,q4,q5,q6⟩:=b2.seven;have y:=b2.free;go_wp2;refine zzb (Td.zAA rfl _ _ w.heap.size rfl (b2.zA _ _ _ _ _ _ _) rfl) rfl ⟨rfl,?_⟩;exact k2.zA (zzr _) _ _ _ _ _ _ _
theorem eight_two (s x:Nat) (a b ro:Int) (w:World) (hs:s<65536) (hj:pc s 10 2=3) (hro:recT.getD (zCH s) 0=ro) (ho:(ro==0)=false):Calls prog 93 #[.int .u16 s,.int .i64 a,.int .i64 b,.int .i64 (x:Int)] w fun e w'=>e=.returned (.agg (I7 ro a a b 0 0 0))∧Kp none w w':=by
 have CF:=hid (fun w=>F_at s 11 10 2 w hs (by decide) (by decide) rfl);rw [hj] at CF;have CA:=hid (fun w=>F_at s 12 12 1 w hs (by decide) (by decide) rfl);have CB:=hid (fun w=>F_at s 6 5 2 w hs (by decide) (by decide) rfl);have hv:zCH s<8:=by
  have h1:pc s 12 1<2:=zF s 12 1;have h2:pc s 5 2<4:=zF s 5 2;unfold zCH;omega
 have hA:pc s 12 1<2:=zF s 12 1;have hB:pc s 5 2<4:=zF s 5 2;have hE:zCH s=pc s 12 1*4+pc s 5 2:=by unfold zCH;omega
 have heq:∀ n,n<8→([32,36,39,40,46,45]:List Int).getD n 0=recT.getD n 0:=by decide
 have CO:=hid (fun w0 w1 hw=>zHz [32,36,39,40,46,45] (zCH s) w0 w1 hw (by decide));rw [heq _ hv,hro,hE] at CO
 skip
 clear hj hv hE heq hro;generalize pc s 12 1=u at *;generalize pc s 5 2=v at *;have k:=(Kp.refl none w).alloc (I7 0 0 0 0 0 0 0) 38;have b0:=Has.new w (I7 0 0 0 0 0 0 0) 38;go_enter func93,ntmps93;go_wp2_with fail;refine (CF.out _).mono ?_;rintro e w1 ⟨rfl,rfl⟩;generalize w.alloc (.cells (I7 0 0 0 0 0 0 0) 38)=w1 at k b0 ⊢;go_wp2_with fail;refine (CA.out _).mono ?_;rintro e w2 ⟨rfl,rfl⟩;go_wp2_with fail;refine (CB.out _).mono ?_;rintro e w3 ⟨rfl,rfl⟩;go_wp2_with fail;refine (CO.out w1 _ (by rfl)).mono ?_;rintro e w4 ⟨rfl,rfl⟩;have k2:=k.alloc #[.int .i64 32,.int .i64 36,.int .i64 39,.int .i64 40,.int .i64 46,.int .i64 45] 3;have b2:=b0.alloc (.cells #[.int .i64 32,.int .i64 36,.int .i64 39,.int .i64 40,.int .i64 46,.int .i64 45] 3);generalize w1.alloc (.cells #[.int .i64 32,.int .i64 36,.int .i64 39,.int .i64 40,.int .i64 46,.int .i64 45] 3)=w5 at k2 b2 ⊢;obtain ⟨q0,q1,q2,q3,q4,q5,q6⟩:=b2.seven;have y:=b2.free;go_wp2;refine zzb (Td.zAA rfl _ _ w.heap.size rfl (b2.zA _ _ _ _ _ _ _) rfl) rfl ⟨rfl,?_⟩;exact k2.zA (zzr _) _ _ _ _ _ _ _
theorem acc_six (s:Nat):acc s [(12,12),(6,2)] 2*2^0=zN s:=by
 show ((0*2^1+pc s 12 1)*2^5+pc s 2 5)*2^0=zN s;unfold zN;simp only [Nat.reducePow];omega
theorem zIo (s:Nat):zN s<64:=by
 have h0:pc s 12 1<2:=zF s 12 1;have h1:pc s 2 5<32:=zF s 2 5;unfold zN;omega
theorem pieces_six (s:Nat) (w0 w1:World) (hw:w1=w0.alloc (.cells #[.int .i64 12,.int .i64 12,.int .i64 6,.int .i64 2] 3)) (hs:s<65536) :
  Calls prog 92 #[.int .u16 s,.slice (some ⟨w0.heap.size,0,none⟩) 4 4,.int .i64 0] w1 fun e w'=>e=.returned (.int .i64 ((zN s:Nat):Int))∧w1=w':=
 zAW s [(12,12),(6,2)] 0 (zN s) 4 w0 w1 hw hs rfl (by decide) (by decide) (by decide) (by decide) (acc_six s)
theorem acc_words (s:Nat):acc s [(5,5),(12,10),(6,6)] 3*2^2=zBL s:=by
 show (((0*2^1+pc s 5 1)*2^3+pc s 10 3)*2^1+pc s 6 1)*2^2=zBL s;unfold zBL;simp only [Nat.reducePow];omega
theorem words_lt (s:Nat):zBL s<128:=by
 have h0:pc s 5 1<2:=zF s 5 1;have h1:pc s 10 3<8:=zF s 10 3;have h2:pc s 6 1<2:=zF s 6 1;unfold zBL;omega
theorem pieces_words (s:Nat) (w0 w1:World) (hw:w1=w0.alloc (.cells #[.int .i64 5,.int .i64 5,.int .i64 12,.int .i64 10,.int .i64 6,.int .i64 6] 3)) (hs:s<65536) :
  Calls prog 92 #[.int .u16 s,.slice (some ⟨w0.heap.size,0,none⟩) 6 6,.int .i64 2] w1 fun e w'=>e=.returned (.int .i64 ((zBL s:Nat):Int))∧w1=w':=
 zAW s [(5,5),(12,10),(6,6)] 2 (zBL s) 6 w0 w1 hw hs rfl (by decide) (by decide) (by decide) (by decide) (acc_words s)
theorem acc_doubles (s:Nat):acc s [(6,5),(12,10)] 2*2^3=zAH s:=by
 show ((0*2^2+pc s 5 2)*2^3+pc s 10 3)*2^3=zAH s;unfold zAH;simp only [Nat.reducePow];omega
theorem doubles_lt (s:Nat):zAH s<256:=by
 have h0:pc s 5 2<4:=zF s 5 2;have h1:pc s 10 3<8:=zF s 10 3;unfold zAH;omega
theorem pieces_doubles (s:Nat) (w0 w1:World) (hw:w1=w0.alloc (.cells #[.int .i64 6,.int .i64 5,.int .i64 12,.int .i64 10] 3)) (hs:s<65536) :
  Calls prog 92 #[.int .u16 s,.slice (some ⟨w0.heap.size,0,none⟩) 4 4,.int .i64 3] w1 fun e w'=>e=.returned (.int .i64 ((zAH s:Nat):Int))∧w1=w':=
 zAW s [(6,5),(12,10)] 3 (zAH s) 4 w0 w1 hw hs rfl (by decide) (by decide) (by decide) (by decide) (acc_doubles s)
theorem acc_branch (s:Nat):acc s [(12,12),(6,5),(2,2),(11,10),(4,3)] 5*2^1=zz s:=by
 show (((((0*2^1+pc s 12 1)*2^2+pc s 5 2)*2^1+pc s 2 1)*2^2+pc s 10 2)*2^2+pc s 3 2)*2^1=zz s;unfold zz;simp only [Nat.reducePow];omega
theorem zGL (s:Nat):zz s<512:=by
 have h0:pc s 12 1<2:=zF s 12 1;have h1:pc s 5 2<4:=zF s 5 2;have h2:pc s 2 1<2:=zF s 2 1;have h3:pc s 10 2<4:=zF s 10 2;have h4:pc s 3 2<4:=zF s 3 2;unfold zz;omega
theorem pieces_branch (s:Nat) (w0 w1:World) (hw:w1=w0.alloc (.cells #[.int .i64 12,.int .i64 12,.int .i64 6,.int .i64 5,.int .i64 2,.int .i64 2,.int .i64 11,.int .i64 10,.int .i64 4,.int .i64 3] 3)) (hs:s<65536) :
  Calls prog 92 #[.int .u16 s,.slice (some ⟨w0.heap.size,0,none⟩) 10 10,.int .i64 1] w1 fun e w'=>e=.returned (.int .i64 ((zz s:Nat):Int))∧w1=w':=
 zAW s [(12,12),(6,5),(2,2),(11,10),(4,3)] 1 (zz s) 10 w0 w1 hw hs rfl (by decide) (by decide) (by decide) (by decide) (acc_branch s)
theorem acc_frame (s:Nat):acc s [(10,7),(12,11),(5,5),(6,6)] 4*2^2=zAa s:=by
 show ((((0*2^4+pc s 7 4)*2^2+pc s 11 2)*2^1+pc s 5 1)*2^1+pc s 6 1)*2^2=zAa s;unfold zAa;simp only [Nat.reducePow];omega
theorem frame_lt (s:Nat):zAa s<1024:=by
 have h0:pc s 7 4<16:=zF s 7 4;have h1:pc s 11 2<4:=zF s 11 2;have h2:pc s 5 1<2:=zF s 5 1;have h3:pc s 6 1<2:=zF s 6 1;unfold zAa;omega
theorem pieces_frame (s:Nat) (w0 w1:World) (hw:w1=w0.alloc (.cells #[.int .i64 10,.int .i64 7,.int .i64 12,.int .i64 11,.int .i64 5,.int .i64 5,.int .i64 6,.int .i64 6] 3)) (hs:s<65536) :
  Calls prog 92 #[.int .u16 s,.slice (some ⟨w0.heap.size,0,none⟩) 8 8,.int .i64 2] w1 fun e w'=>e=.returned (.int .i64 ((zAa s:Nat):Int))∧w1=w':=
 zAW s [(10,7),(12,11),(5,5),(6,6)] 2 (zAa s) 8 w0 w1 hw hs rfl (by decide) (by decide) (by decide) (by decide) (acc_frame s)
theorem acc_stack (s:Nat):acc s [(12,12),(4,3),(5,5),(2,2),(6,6)] 5*2^4=zAN s:=by
 show (((((0*2^1+pc s 12 1)*2^2+pc s 3 2)*2^1+pc s 5 1)*2^1+pc s 2 1)*2^1+pc s 6 1)*2^4=zAN s;unfold zAN;simp only [Nat.reducePow];omega
theorem stack_lt (s:Nat):zAN s<1024:=by
 have h0:pc s 12 1<2:=zF s 12 1;have h1:pc s 3 2<4:=zF s 3 2;have h2:pc s 5 1<2:=zF s 5 1;have h3:pc s 2 1<2:=zF s 2 1;have h4:pc s 6 1<2:=zF s 6 1;unfold zAN;omega
theorem pieces_stack (s:Nat) (w0 w1:World) (hw:w1=w0.alloc (.cells #[.int .i64 12,.int .i64 12,.int .i64 4,.int .i64 3,.int .i64 5,.int .i64 5,.int .i64 2,.int .i64 2,.int .i64 6,.int .i64 6] 3)) (hs:s<65536) :
  Calls prog 92 #[.int .u16 s,.slice (some ⟨w0.heap.size,0,none⟩) 10 10,.int .i64 4] w1 fun e w'=>e=.returned (.int .i64 ((zAN s:Nat):Int))∧w1=w':=
 zAW s [(12,12),(4,3),(5,5),(2,2),(6,6)] 4 (zAN s) 10 w0 w1 hw hs rfl (by decide) (by decide) (by decide) (by decide) (acc_stack s)
theorem acc_jump (s:Nat):acc s [(12,12),(8,8),(10,9),(6,6),(7,7),(2,2),(11,11),(5,3)] 8*2^1=zCr s:=by
 show ((((((((0*2^1+pc s 12 1)*2^1+pc s 8 1)*2^2+pc s 9 2)*2^1+pc s 6 1)*2^1+pc s 7 1)*2^1+pc s 2 1)*2^1+pc s 11 1)*2^3+pc s 3 3)*2^1=zCr s;unfold zCr;simp only [Nat.reducePow];omega
theorem jump_lt (s:Nat):zCr s<4096:=by
 have h0:pc s 12 1<2:=zF s 12 1;have h1:pc s 8 1<2:=zF s 8 1;have h2:pc s 9 2<4:=zF s 9 2;have h3:pc s 6 1<2:=zF s 6 1;have h4:pc s 7 1<2:=zF s 7 1;have h5:pc s 2 1<2:=zF s 2 1;have h6:pc s 11 1<2:=zF s 11 1;have h7:pc s 3 3<8:=zF s 3 3;unfold zCr;omega
theorem pieces_jump (s:Nat) (w0 w1:World) (hw:w1=w0.alloc (.cells #[.int .i64 12,.int .i64 12,.int .i64 8,.int .i64 8,.int .i64 10,.int .i64 9,.int .i64 6,.int .i64 6,.int .i64 7,.int .i64 7,.int .i64 2,.int .i64 2,.int .i64 11,.int .i64 11,.int .i64 5,.int .i64 3] 3)) (hs:s<65536) :
  Calls prog 92 #[.int .u16 s,.slice (some ⟨w0.heap.size,0,none⟩) 16 16,.int .i64 1] w1 fun e w'=>e=.returned (.int .i64 ((zCr s:Nat):Int))∧w1=w':=
 zAW s [(12,12),(8,8),(10,9),(6,6),(7,7),(2,2),(11,11),(5,3)] 1 (zCr s) 16 w0 w1 hw hs rfl (by decide) (by decide) (by decide) (by decide) (acc_jump s)
theorem acc_loadw (s:Nat):acc s [(3,2),(12,12),(6,4)] 3*2^2=zDs s:=by
 show (((0*2^2+pc s 2 2)*2^1+pc s 12 1)*2^3+pc s 4 3)*2^2=zDs s;unfold zDs;simp only [Nat.reducePow];omega
theorem loadw_lt (s:Nat):zDs s<256:=by
 have h0:pc s 2 2<4:=zF s 2 2;have h1:pc s 12 1<2:=zF s 12 1;have h2:pc s 4 3<8:=zF s 4 3;unfold zDs;omega
theorem pieces_loadw (s:Nat) (w0 w1:World) (hw:w1=w0.alloc (.cells #[.int .i64 3,.int .i64 2,.int .i64 12,.int .i64 12,.int .i64 6,.int .i64 4] 3)) (hs:s<65536) :
  Calls prog 92 #[.int .u16 s,.slice (some ⟨w0.heap.size,0,none⟩) 6 6,.int .i64 2] w1 fun e w'=>e=.returned (.int .i64 ((zDs s:Nat):Int))∧w1=w':=
 zAW s [(3,2),(12,12),(6,4)] 2 (zDs s) 6 w0 w1 hw hs rfl (by decide) (by decide) (by decide) (by decide) (acc_loadw s)
theorem acc_loadd (s:Nat):acc s [(4,2),(12,12),(6,5)] 3*2^3=zDt s:=by
 show (((0*2^3+pc s 2 3)*2^1+pc s 12 1)*2^2+pc s 5 2)*2^3=zDt s;unfold zDt;simp only [Nat.reducePow];omega
theorem loadd_lt (s:Nat):zDt s<512:=by
 have h0:pc s 2 3<8:=zF s 2 3;have h1:pc s 12 1<2:=zF s 12 1;have h2:pc s 5 2<4:=zF s 5 2;unfold zDt;omega
theorem pieces_loadd (s:Nat) (w0 w1:World) (hw:w1=w0.alloc (.cells #[.int .i64 4,.int .i64 2,.int .i64 12,.int .i64 12,.int .i64 6,.int .i64 5] 3)) (hs:s<65536) :
  Calls prog 92 #[.int .u16 s,.slice (some ⟨w0.heap.size,0,none⟩) 6 6,.int .i64 3] w1 fun e w'=>e=.returned (.int .i64 ((zDt s:Nat):Int))∧w1=w':=
 zAW s [(4,2),(12,12),(6,5)] 3 (zDt s) 6 w0 w1 hw hs rfl (by decide) (by decide) (by decide) (by decide) (acc_loadd s)
theorem acc_storew (s:Nat):acc s [(8,7),(12,9)] 2*2^2=zCI s:=by
 show ((0*2^2+pc s 7 2)*2^4+pc s 9 4)*2^2=zCI s;unfold zCI;simp only [Nat.reducePow];omega
theorem storew_lt (s:Nat):zCI s<256:=by
 have h0:pc s 7 2<4:=zF s 7 2;have h1:pc s 9 4<16:=zF s 9 4;unfold zCI;omega
theorem pieces_storew (s:Nat) (w0 w1:World) (hw:w1=w0.alloc (.cells #[.int .i64 8,.int .i64 7,.int .i64 12,.int .i64 9] 3)) (hs:s<65536) :
  Calls prog 92 #[.int .u16 s,.slice (some ⟨w0.heap.size,0,none⟩) 4 4,.int .i64 2] w1 fun e w'=>e=.returned (.int .i64 ((zCI s:Nat):Int))∧w1=w':=
 zAW s [(8,7),(12,9)] 2 (zCI s) 4 w0 w1 hw hs rfl (by decide) (by decide) (by decide) (by decide) (acc_storew s)
theorem acc_stored (s:Nat):acc s [(9,7),(12,10)] 2*2^3=zCJ s:=by
 show ((0*2^3+pc s 7 3)*2^3+pc s 10 3)*2^3=zCJ s;unfold zCJ;simp only [Nat.reducePow];omega
theorem stored_lt (s:Nat):zCJ s<512:=by
 have h0:pc s 7 3<8:=zF s 7 3;have h1:pc s 10 3<8:=zF s 10 3;unfold zCJ;omega
theorem pieces_stored (s:Nat) (w0 w1:World) (hw:w1=w0.alloc (.cells #[.int .i64 9,.int .i64 7,.int .i64 12,.int .i64 10] 3)) (hs:s<65536) :
  Calls prog 92 #[.int .u16 s,.slice (some ⟨w0.heap.size,0,none⟩) 4 4,.int .i64 3] w1 fun e w'=>e=.returned (.int .i64 ((zCJ s:Nat):Int))∧w1=w':=
 zAW s [(9,7),(12,10)] 3 (zCJ s) 4 w0 w1 hw hs rfl (by decide) (by decide) (by decide) (by decide) (acc_stored s)
def zHu (s:Nat) (hs:s<65536):=And.intro (hid (fun w=>F_at s 1 0 2 w hs (by decide) (by decide) rfl)) (And.intro (hid (fun w=>F_at s 15 13 3 w hs (by decide) (by decide) rfl)) (And.intro (show pc s 0 2<4 from zF s 0 2) (And.intro (show pc s 13 3<8 from zF s 13 3) (And.intro (hid (fun w=>F_at s 11 7 5 w hs (by decide) (by decide) rfl)) (And.intro (show pc s 7 5<32 from zF s 7 5) (And.intro (hid (fun w=>F_at s 6 2 5 w hs (by decide) (by decide) rfl)) (And.intro (show pc s 2 5<32 from zF s 2 5) (And.intro (hid (fun w=>F_at s 9 7 3 w hs (by decide) (by decide) rfl)) (And.intro (show pc s 7 3<8 from zF s 7 3) (And.intro (hid (fun w=>F_at s 4 2 3 w hs (by decide) (by decide) rfl)) (And.intro (show pc s 2 3<8 from zF s 2 3) (And.intro (hid (fun w0 w1 hw=>pieces_six s w0 w1 hw hs)) (And.intro (show zN s<64 from zIo s) (And.intro (hid (fun w=>zIS (zN s:Int) 6 w (by decide) (by decide) (by have:=zIo s;omega) (by have:=zIo s;omega))) (And.intro (show -32≤low (zN s:Int) 6 from zDB _ 6) (And.intro (show low (zN s:Int) 6<32 from zDC _ 6 (by decide)) (And.intro (hid (fun w0 w1 hw=>pieces_words s w0 w1 hw hs)) (And.intro (show zBL s<128 from words_lt s) (And.intro (hid (fun w0 w1 hw=>pieces_doubles s w0 w1 hw hs)) (And.intro (show zAH s<256 from doubles_lt s) (And.intro (hid (fun w0 w1 hw=>pieces_branch s w0 w1 hw hs)) (And.intro (show zz s<512 from zGL s) (And.intro (hid (fun w=>zIS (zz s:Int) 9 w (by decide) (by decide) (by have:=zGL s;omega) (by have:=zGL s;omega))) (And.intro (show -256≤low (zz s:Int) 9 from zDB _ 9) (show low (zz s:Int) 9<256 from zDC _ 9 (by decide))))))))))))))))))))))))))
theorem zHZ {Φ:World→Prop} (h:FrR w cs W) (H:∀ W',FrR w cs W'→Φ W'):Φ W:=H W h
theorem zAV (s:Nat) (g k:Nat) (w:World) (hs:s<65536) (hg:pc s 0 2=g) (hk:pc s 13 3=k) (n0:((g:Int)*8+(k:Int)==0)=false) (n2:((g:Int)*8+(k:Int)==2)=false) (n3:((g:Int)*8+(k:Int)==3)=false) (n6:((g:Int)*8+(k:Int)==6)=false) (n7:((g:Int)*8+(k:Int)==7)=false) (n8:((g:Int)*8+(k:Int)==8)=false) (n9:((g:Int)*8+(k:Int)==9)=false) (n10:((g:Int)*8+(k:Int)==10)=false) (n11:((g:Int)*8+(k:Int)==11)=false) (n12:((g:Int)*8+(k:Int)==12)=false) (n13:((g:Int)*8+(k:Int)==13)=false) (n14:((g:Int)*8+(k:Int)==14)=false) (n15:((g:Int)*8+(k:Int)==15)=false) (n16:((g:Int)*8+(k:Int)==16)=false) (n18:((g:Int)*8+(k:Int)==18)=false) (n19:((g:Int)*8+(k:Int)==19)=false) (n20:((g:Int)*8+(k:Int)==20)=false) (n22:((g:Int)*8+(k:Int)==22)=false) (n23:((g:Int)*8+(k:Int)==23)=false) :
  Calls prog 53 #[.int .u16 s] w fun e w'=>e=.returned (.tuple #[.agg (I7 0 0 0 0 0 0 0),.bool false])∧Kp none w w':=by
 have f1:=FrR.two w (I7 0 0 0 0 0 0 2);obtain ⟨Cg,Ck,Hg,Hk,Crd,Hrd,Cr2,Hr2,Ca,Ha,Cb,Hb,Psix,Hsix,Ssix,lsix,msix,Pwords,Hwords,Pdoubles,Hdoubles,Pbranch,Hbranch,Sbranch,lbranch,mbranch⟩:=zHu s hs;rw [hg] at Cg Hg;rw [hk] at Ck Hk;clear hg hk;generalize pc s 7 5=rd at *;generalize pc s 2 5=r2 at *;generalize pc s 7 3=a at *;generalize pc s 2 3=b at *;generalize zN s=x6 at *;generalize low (x6:Int) 6=d6 at *;generalize zBL s=xw at *;generalize zAH s=xd at *;generalize zz s=xb at *;generalize low (xb:Int) 9=d9 at *;go_enter func53,ntmps53;go_wp2_with fail;refine (Crd.out _).mono ?_;rintro e wx ⟨rfl,rfl⟩;generalize (w.alloc (.cells (I7 0 0 0 0 0 0 0) 38)).alloc (.cells (I7 0 0 0 0 0 0 2) 38)=w1 at f1 ⊢;go_wp2_with fail;refine (Cr2.out _).mono ?_;rintro e wx ⟨rfl,rfl⟩;go_wp2_with fail;refine (Ca.out _).mono ?_;rintro e wx ⟨rfl,rfl⟩;go_wp2_with fail;refine (Cb.out _).mono ?_;rintro e wx ⟨rfl,rfl⟩;go_wp2_with fail;refine (Psix.out w1 _ (by rfl)).mono ?_;rintro e wx ⟨rfl,rfl⟩;have f2:=f1.alloc #[.int .i64 12,.int .i64 12,.int .i64 6,.int .i64 2] 3;generalize w1.alloc (.cells #[.int .i64 12,.int .i64 12,.int .i64 6,.int .i64 2] 3)=w2 at f2 ⊢;clear f1;go_wp2_with fail;refine (Ssix.out _).mono ?_;rintro e wx ⟨rfl,rfl⟩;go_wp2_with fail;refine (Pwords.out w2 _ (by rfl)).mono ?_;rintro e wx ⟨rfl,rfl⟩;have f3:=f2.alloc #[.int .i64 5,.int .i64 5,.int .i64 12,.int .i64 10,.int .i64 6,.int .i64 6] 3;generalize w2.alloc (.cells #[.int .i64 5,.int .i64 5,.int .i64 12,.int .i64 10,.int .i64 6,.int .i64 6] 3)=w3 at f3 ⊢;clear f2;go_wp2_with fail;refine (Pdoubles.out w3 _ (by rfl)).mono ?_;rintro e wx ⟨rfl,rfl⟩;have f4:=f3.alloc #[.int .i64 6,.int .i64 5,.int .i64 12,.int .i64 10] 3;generalize w3.alloc (.cells #[.int .i64 6,.int .i64 5,.int .i64 12,.int .i64 10] 3)=w4 at f4 ⊢
 clear f3;go_wp2_with fail;refine (Pbranch.out w4 _ (by rfl)).mono ?_;rintro e wx ⟨rfl,rfl⟩;have f5:=f4.alloc #[.int .i64 12,.int .i64 12,.int .i64 6,.int .i64 5,.int .i64 2,.int .i64 2,.int .i64 11,.int .i64 10,.int .i64 4,.int .i64 3] 3;generalize w4.alloc (.cells #[.int .i64 12,.int .i64 12,.int .i64 6,.int .i64 5,.int .i64 2,.int .i64 2,.int .i64 11,.int .i64 10,.int .i64 4,.int .i64 3] 3)=w5 at f5 ⊢;clear f4;go_wp2_with fail;refine (Sbranch.out _).mono ?_;rintro e wx ⟨rfl,rfl⟩;go_wp2_with fail;refine (Cg.out _).mono ?_;rintro e wx ⟨rfl,rfl⟩;go_wp2_with fail;refine (Ck.out _).mono ?_;rintro e wx ⟨rfl,rfl⟩;obtain ⟨b0,b1,b2,b3,b4,b5,b6⟩:=f5.box.seven;have z:=f5.box.free;obtain ⟨q0,q1,q2,q3,q4,q5,q6⟩:=f5.res.seven;have y:=f5.res.free;go_wp2;have g:=f5;refine zzb (zAE rfl _ _ w.heap.size _ _ _ _ _ _ _ rfl (g.res.zA _ _ _ _ _ _ _)) rfl ⟨rfl,?_⟩;exact g.kp.zA (zzr _) _ _ _ _ _ _ _
theorem zBZ (s:Nat) (A:Array Value) (o:Bool) (w:World) (hs:s<65536) (h:(pc s 0 2=0∧pc s 13 3=2∧A=I7 13 ((pc s 2 3:Nat)+8) ((pc s 7 3:Nat)+8) 0 (zBL s:Nat) 0 2∧o=true)∨(pc s 0 2=0∧pc s 13 3=3∧A=I7 14 ((pc s 2 3:Nat)+8) ((pc s 7 3:Nat)+8) 0 (zAH s:Nat) 0 2∧o=true)∨(pc s 0 2=0∧pc s 13 3=6∧A=I7 20 0 ((pc s 7 3:Nat)+8) ((pc s 2 3:Nat)+8) (zBL s:Nat) 0 2∧o=true)∨(pc s 0 2=0∧pc s 13 3=7∧A=I7 21 0 ((pc s 7 3:Nat)+8) ((pc s 2 3:Nat)+8) (zAH s:Nat) 0 2∧o=true)∨(pc s 0 2=1∧pc s 13 3=0∧A=I7 22 (pc s 7 5:Nat) (pc s 7 5:Nat) 0 (low (zN s:Nat) 6) 0 2∧o=true)∨(pc s 0 2=1∧pc s 13 3=1∧0<pc s 7 5∧A=I7 41 (pc s 7 5:Nat) (pc s 7 5:Nat) 0 (low (zN s:Nat) 6) 0 2∧o=true)∨(pc s 0 2=1∧pc s 13 3=2∧A=I7 22 (pc s 7 5:Nat) 0 0 (low (zN s:Nat) 6) 0 2∧o=true)∨(pc s 0 2=1∧pc s 13 3=6∧A=I7 5 0 ((pc s 7 3:Nat)+8) 0 (low (zz s:Nat) 9) 0 2∧o=true)∨(pc s 0 2=1∧pc s 13 3=7∧A=I7 6 0 ((pc s 7 3:Nat)+8) 0 (low (zz s:Nat) 9) 0 2∧o=true)∨(pc s 0 2=2∧pc s 13 3=0∧A=I7 28 (pc s 7 5:Nat) (pc s 7 5:Nat) 0 (zN s:Nat) 0 2∧o=true)∨(pc s 0 2=1∧pc s 13 3=1∧pc s 7 5=0∧A=I7 0 0 0 0 0 0 0∧o=false)∨(pc s 0 2=2∧pc s 13 3=2∧pc s 7 5=0∧A=I7 0 0 0 0 0 0 0∧o=false)∨(pc s 0 2=2∧pc s 13 3=3∧pc s 7 5=0∧A=I7 0 0 0 0 0 0 0∧o=false)) :
  Calls prog 53 #[.int .u16 s] w fun e w'=>e=.returned (.tuple #[.agg A,.bool o])∧Kp none w w':=by
 have f1:=FrR.two w (I7 0 0 0 0 0 0 2);obtain ⟨Cg,Ck,Hg,Hk,Crd,Hrd,Cr2,Hr2,Ca,Ha,Cb,Hb,Psix,Hsix,Ssix,lsix,msix,Pwords,Hwords,Pdoubles,Hdoubles,Pbranch,Hbranch,Sbranch,lbranch,mbranch⟩:=zHu s hs;generalize pc s 0 2=g at *;generalize pc s 13 3=k at *;generalize pc s 7 5=rd at *;generalize pc s 2 5=r2 at *;generalize pc s 7 3=a at *;generalize pc s 2 3=b at *;generalize zN s=x6 at *;generalize low (x6:Int) 6=d6 at *;generalize zBL s=xw at *;generalize zAH s=xd at *;generalize zz s=xb at *;generalize low (xb:Int) 9=d9 at *;go_enter func53,ntmps53;go_wp2_with fail;refine (Crd.out _).mono ?_;rintro e wx ⟨rfl,rfl⟩;generalize (w.alloc (.cells (I7 0 0 0 0 0 0 0) 38)).alloc (.cells (I7 0 0 0 0 0 0 2) 38)=w1 at f1 ⊢;go_wp2_with fail;refine (Cr2.out _).mono ?_;rintro e wx ⟨rfl,rfl⟩;go_wp2_with fail;refine (Ca.out _).mono ?_;rintro e wx ⟨rfl,rfl⟩;go_wp2_with fail;refine (Cb.out _).mono ?_;rintro e wx ⟨rfl,rfl⟩;go_wp2_with fail;refine (Psix.out w1 _ (by rfl)).mono ?_;rintro e wx ⟨rfl,rfl⟩;have f2:=f1.alloc #[.int .i64 12,.int .i64 12,.int .i64 6,.int .i64 2] 3;generalize w1.alloc (.cells #[.int .i64 12,.int .i64 12,.int .i64 6,.int .i64 2] 3)=w2 at f2 ⊢;clear f1;go_wp2_with fail;refine (Ssix.out _).mono ?_;rintro e wx ⟨rfl,rfl⟩;go_wp2_with fail;refine (Pwords.out w2 _ (by rfl)).mono ?_;rintro e wx ⟨rfl,rfl⟩;have f3:=f2.alloc #[.int .i64 5,.int .i64 5,.int .i64 12,.int .i64 10,.int .i64 6,.int .i64 6] 3;generalize w2.alloc (.cells #[.int .i64 5,.int .i64 5,.int .i64 12,.int .i64 10,.int .i64 6,.int .i64 6] 3)=w3 at f3 ⊢;clear f2;go_wp2_with fail;refine (Pdoubles.out w3 _ (by rfl)).mono ?_;rintro e wx ⟨rfl,rfl⟩;have f4:=f3.alloc #[.int .i64 6,.int .i64 5,.int .i64 12,.int .i64 10] 3
 generalize w3.alloc (.cells #[.int .i64 6,.int .i64 5,.int .i64 12,.int .i64 10] 3)=w4 at f4 ⊢;clear f3;go_wp2_with fail;refine (Pbranch.out w4 _ (by rfl)).mono ?_;rintro e wx ⟨rfl,rfl⟩;have f5:=f4.alloc #[.int .i64 12,.int .i64 12,.int .i64 6,.int .i64 5,.int .i64 2,.int .i64 2,.int .i64 11,.int .i64 10,.int .i64 4,.int .i64 3] 3;generalize w4.alloc (.cells #[.int .i64 12,.int .i64 12,.int .i64 6,.int .i64 5,.int .i64 2,.int .i64 2,.int .i64 11,.int .i64 10,.int .i64 4,.int .i64 3] 3)=w5 at f5 ⊢;clear f4;go_wp2_with fail;refine (Sbranch.out _).mono ?_;rintro e wx ⟨rfl,rfl⟩;go_wp2_with fail;refine (Cg.out _).mono ?_;rintro e wx ⟨rfl,rfl⟩;go_wp2_with fail;refine (Ck.out _).mono ?_;rintro e wx ⟨rfl,rfl⟩;rcases h with ⟨rfl,rfl,rfl,rfl⟩|⟨rfl,rfl,rfl,rfl⟩|⟨rfl,rfl,rfl,rfl⟩|⟨rfl,rfl,rfl,rfl⟩|⟨rfl,rfl,rfl,rfl⟩|⟨rfl,rfl,hr,rfl,rfl⟩|⟨rfl,rfl,rfl,rfl⟩|⟨rfl,rfl,rfl,rfl⟩|⟨rfl,rfl,rfl,rfl⟩|⟨rfl,rfl,rfl,rfl⟩|⟨rfl,rfl,rfl,rfl,rfl⟩|⟨rfl,rfl,rfl,rfl,rfl⟩|⟨rfl,rfl,rfl,rfl,rfl⟩;all_goals (
  (try have hr':(0:Int)<(rd:Int):=by omega)
  first
  | (
   obtain ⟨b0,b1,b2,b3,b4,b5,b6⟩:=f5.box.seven;have z:=f5.box.free;go_upto_region 60 with (fail);refine zHZ (Φ:=fun W=>Code.wp _ _ _ _ W) (by repeat' (first|with_reducible exact f5|with_reducible apply FrR.set)) (fun w9 f9=>?_);simp only [qa] at f9;clear b0 b1 b2 b3 b4 b5 b6 z f5;obtain ⟨b0,b1,b2,b3,b4,b5,b6⟩:=f9.box.seven;have z:=f9.box.free;obtain ⟨q0,q1,q2,q3,q4,q5,q6⟩:=f9.res.seven;have y:=f9.res.free;go_wp2;refine zzb (zAE rfl _ _ w.heap.size _ _ _ _ _ _ _ rfl ((f9.set 6 (.int .i64 2)).res.zA _ _ _ _ _ _ _)) rfl ⟨rfl,?_⟩;exact (f9.set 6 (.int .i64 2)).kp.zA (zzr _) _ _ _ _ _ _ _
   done)
  | (
   obtain ⟨b0,b1,b2,b3,b4,b5,b6⟩:=f5.box.seven;have z:=f5.box.free;obtain ⟨q0,q1,q2,q3,q4,q5,q6⟩:=f5.res.seven;have y:=f5.res.free;go_wp2;refine zzb (zAE rfl _ _ w.heap.size _ _ _ _ _ _ _ rfl ((f5).res.zA _ _ _ _ _ _ _)) rfl ⟨rfl,?_⟩;exact (f5).kp.zA (zzr _) _ _ _ _ _ _ _
   done))
def refx_lw (s:Nat) (w:World) (hs:s<65536) (hg:pc s 0 2=0) (hk:pc s 13 3=2):=zBZ s _ _ w hs (.inl ⟨hg,hk,rfl,rfl⟩)
def refx_ld (s:Nat) (w:World) (hs:s<65536) (hg:pc s 0 2=0) (hk:pc s 13 3=3):=zBZ s _ _ w hs (.inr (.inl ⟨hg,hk,rfl,rfl⟩))
def refx_sw (s:Nat) (w:World) (hs:s<65536) (hg:pc s 0 2=0) (hk:pc s 13 3=6):=zBZ s _ _ w hs (.inr (.inr (.inl ⟨hg,hk,rfl,rfl⟩)))
def refx_sd (s:Nat) (w:World) (hs:s<65536) (hg:pc s 0 2=0) (hk:pc s 13 3=7):=zBZ s _ _ w hs (.inr (.inr (.inr (.inl ⟨hg,hk,rfl,rfl⟩))))
def refx_addi (s:Nat) (w:World) (hs:s<65536) (hg:pc s 0 2=1) (hk:pc s 13 3=0):=zBZ s _ _ w hs (.inr (.inr (.inr (.inr (.inl ⟨hg,hk,rfl,rfl⟩)))))
def refx_addiw (s:Nat) (w:World) (hs:s<65536) (hg:pc s 0 2=1) (hk:pc s 13 3=1) (hc:0<pc s 7 5):=zBZ s _ _ w hs (.inr (.inr (.inr (.inr (.inr (.inl ⟨hg,hk,hc,rfl,rfl⟩))))))
def refx_li (s:Nat) (w:World) (hs:s<65536) (hg:pc s 0 2=1) (hk:pc s 13 3=2):=zBZ s _ _ w hs (.inr (.inr (.inr (.inr (.inr (.inr (.inl ⟨hg,hk,rfl,rfl⟩)))))))
def refx_beq (s:Nat) (w:World) (hs:s<65536) (hg:pc s 0 2=1) (hk:pc s 13 3=6):=zBZ s _ _ w hs (.inr (.inr (.inr (.inr (.inr (.inr (.inr (.inl ⟨hg,hk,rfl,rfl⟩))))))))
def refx_bne (s:Nat) (w:World) (hs:s<65536) (hg:pc s 0 2=1) (hk:pc s 13 3=7):=zBZ s _ _ w hs (.inr (.inr (.inr (.inr (.inr (.inr (.inr (.inr (.inl ⟨hg,hk,rfl,rfl⟩)))))))))
def refx_slli (s:Nat) (w:World) (hs:s<65536) (hg:pc s 0 2=2) (hk:pc s 13 3=0):=zBZ s _ _ w hs (.inr (.inr (.inr (.inr (.inr (.inr (.inr (.inr (.inr (.inl ⟨hg,hk,rfl,rfl⟩))))))))))
def refx_addiw0 (s:Nat) (w:World) (hs:s<65536) (hg:pc s 0 2=1) (hk:pc s 13 3=1) (hc:pc s 7 5=0):=zBZ s _ _ w hs (.inr (.inr (.inr (.inr (.inr (.inr (.inr (.inr (.inr (.inr (.inl ⟨hg,hk,hc,rfl,rfl⟩)))))))))))
def refx_lwsp0 (s:Nat) (w:World) (hs:s<65536) (hg:pc s 0 2=2) (hk:pc s 13 3=2) (hc:pc s 7 5=0):=zBZ s _ _ w hs (.inr (.inr (.inr (.inr (.inr (.inr (.inr (.inr (.inr (.inr (.inr (.inl ⟨hg,hk,hc,rfl,rfl⟩))))))))))))
def refx_ldsp0 (s:Nat) (w:World) (hs:s<65536) (hg:pc s 0 2=2) (hk:pc s 13 3=3) (hc:pc s 7 5=0):=zBZ s _ _ w hs (.inr (.inr (.inr (.inr (.inr (.inr (.inr (.inr (.inr (.inr (.inr (.inr (⟨hg,hk,hc,rfl,rfl⟩)))))))))))))
theorem zBu (s:Nat) (A:Array Value) (o:Bool) (w:World) (hs:s<65536) (h:(pc s 0 2=0∧pc s 13 3=0∧zAa s=0∧A=I7 0 0 0 0 0 0 0∧o=false)∨(pc s 0 2=0∧pc s 13 3=0∧0<zAa s∧A=I7 22 ((pc s 2 3:Nat)+8) 2 0 (zAa s:Nat) 0 2∧o=true)∨(pc s 0 2=1∧pc s 13 3=3∧pc s 7 5=2∧low (zAN s:Nat) 10=0∧A=I7 0 0 0 0 0 0 0∧o=false)∨(pc s 0 2=1∧pc s 13 3=3∧pc s 7 5=2∧(low (zAN s:Nat) 10==0)=false∧(low (zAN s:Nat) 10 != 0)=true∧A=I7 22 2 2 0 (low (zAN s:Nat) 10) 0 2∧o=true)∨(pc s 0 2=1∧pc s 13 3=3∧(((pc s 7 5:Nat):Int)==2)=false∧(((pc s 7 5:Nat):Int) != 2)=true∧low (zN s:Nat) 6=0∧A=I7 0 0 0 0 0 0 0∧o=false)∨(pc s 0 2=1∧pc s 13 3=3∧(((pc s 7 5:Nat):Int)==2)=false∧(((pc s 7 5:Nat):Int) != 2)=true∧(low (zN s:Nat) 6==0)=false∧(low (zN s:Nat) 6 != 0)=true∧A=I7 1 (pc s 7 5:Nat) 0 0 ((low (zN s:Nat) 6)*4096) 0 2∧o=true)∨(pc s 0 2=1∧pc s 13 3=5∧A=I7 3 0 0 0 (low (zCr s:Nat) 12) 0 2∧o=true)∨(pc s 0 2=2∧pc s 13 3=2∧0<pc s 7 5∧A=I7 13 (pc s 7 5:Nat) 2 0 (zDs s:Nat) 0 2∧o=true)∨(pc s 0 2=2∧pc s 13 3=3∧0<pc s 7 5∧A=I7 14 (pc s 7 5:Nat) 2 0 (zDt s:Nat) 0 2∧o=true)∨(pc s 0 2=2∧pc s 13 3=6∧A=I7 20 0 2 (pc s 2 5:Nat) (zCI s:Nat) 0 2∧o=true)∨(pc s 0 2=2∧pc s 13 3=7∧A=I7 21 0 2 (pc s 2 5:Nat) (zCJ s:Nat) 0 2∧o=true)) :
  Calls prog 53 #[.int .u16 s] w fun e w'=>e=.returned (.tuple #[.agg A,.bool o])∧Kp none w w':=by
 have f1:=FrR.two w (I7 0 0 0 0 0 0 2);obtain ⟨Cg,Ck,Hg,Hk,Crd,Hrd,Cr2,Hr2,Ca,Ha,Cb,Hb,Psix,Hsix,Ssix,lsix,msix,Pwords,Hwords,Pdoubles,Hdoubles,Pbranch,Hbranch,Sbranch,lbranch,mbranch⟩:=zHu s hs;have Pframe:=hid (fun w0 w1 hw=>pieces_frame s w0 w1 hw hs);have Hframe:zAa s<1024:=frame_lt s;generalize zAa s=xf at *;have Pstack:=hid (fun w0 w1 hw=>pieces_stack s w0 w1 hw hs);have Hstack:zAN s<1024:=stack_lt s;have Sstack:=hid (fun w=>zIS (zAN s:Int) 10 w (by decide) (by decide) (by omega) (by omega));have lstack:-512≤low (zAN s:Int) 10:=zDB _ 10;have mstack:low (zAN s:Int) 10<512:=zDC _ 10 (by decide);generalize zAN s=xs at *;generalize low (xs:Int) 10=ds at *;have Pjump:=hid (fun w0 w1 hw=>pieces_jump s w0 w1 hw hs);have Hjump:zCr s<4096:=jump_lt s;have Sjump:=hid (fun w=>zIS (zCr s:Int) 12 w (by decide) (by decide) (by omega) (by omega));have ljump:-2048≤low (zCr s:Int) 12:=zDB _ 12;have mjump:low (zCr s:Int) 12<2048:=zDC _ 12 (by decide);generalize zCr s=xj at *;generalize low (xj:Int) 12=dj at *;have Ploadw:=hid (fun w0 w1 hw=>pieces_loadw s w0 w1 hw hs);have Hloadw:zDs s<256:=loadw_lt s;generalize zDs s=y1 at *;have Ploadd:=hid (fun w0 w1 hw=>pieces_loadd s w0 w1 hw hs);have Hloadd:zDt s<512:=loadd_lt s;generalize zDt s=y2 at *;have Pstorew:=hid (fun w0 w1 hw=>pieces_storew s w0 w1 hw hs);have Hstorew:zCI s<256:=storew_lt s;generalize zCI s=y3 at *;have Pstored:=hid (fun w0 w1 hw=>pieces_stored s w0 w1 hw hs);have Hstored:zCJ s<512:=stored_lt s;generalize zCJ s=y4 at *;generalize pc s 0 2=g at *;generalize pc s 13 3=k at *;generalize pc s 7 5=rd at *;generalize pc s 2 5=r2 at *;generalize pc s 7 3=a at *;generalize pc s 2 3=b at *;generalize zN s=x6 at *;generalize low (x6:Int) 6=d6 at *;generalize zBL s=xw at *;generalize zAH s=xd at *;generalize zz s=xb at *
 generalize low (xb:Int) 9=d9 at *;go_enter func53,ntmps53;go_wp2_with fail;refine (Crd.out _).mono ?_;rintro e wx ⟨rfl,rfl⟩;generalize (w.alloc (.cells (I7 0 0 0 0 0 0 0) 38)).alloc (.cells (I7 0 0 0 0 0 0 2) 38)=w1 at f1 ⊢;go_wp2_with fail;refine (Cr2.out _).mono ?_;rintro e wx ⟨rfl,rfl⟩;go_wp2_with fail;refine (Ca.out _).mono ?_;rintro e wx ⟨rfl,rfl⟩;go_wp2_with fail;refine (Cb.out _).mono ?_;rintro e wx ⟨rfl,rfl⟩;go_wp2_with fail;refine (Psix.out w1 _ (by rfl)).mono ?_;rintro e wx ⟨rfl,rfl⟩;have f2:=f1.alloc #[.int .i64 12,.int .i64 12,.int .i64 6,.int .i64 2] 3;generalize w1.alloc (.cells #[.int .i64 12,.int .i64 12,.int .i64 6,.int .i64 2] 3)=w2 at f2 ⊢;clear f1;go_wp2_with fail;refine (Ssix.out _).mono ?_;rintro e wx ⟨rfl,rfl⟩;go_wp2_with fail;refine (Pwords.out w2 _ (by rfl)).mono ?_;rintro e wx ⟨rfl,rfl⟩;have f3:=f2.alloc #[.int .i64 5,.int .i64 5,.int .i64 12,.int .i64 10,.int .i64 6,.int .i64 6] 3;generalize w2.alloc (.cells #[.int .i64 5,.int .i64 5,.int .i64 12,.int .i64 10,.int .i64 6,.int .i64 6] 3)=w3 at f3 ⊢;clear f2;go_wp2_with fail;refine (Pdoubles.out w3 _ (by rfl)).mono ?_;rintro e wx ⟨rfl,rfl⟩;have f4:=f3.alloc #[.int .i64 6,.int .i64 5,.int .i64 12,.int .i64 10] 3;generalize w3.alloc (.cells #[.int .i64 6,.int .i64 5,.int .i64 12,.int .i64 10] 3)=w4 at f4 ⊢;clear f3;go_wp2_with fail;refine (Pbranch.out w4 _ (by rfl)).mono ?_;rintro e wx ⟨rfl,rfl⟩;have f5:=f4.alloc #[.int .i64 12,.int .i64 12,.int .i64 6,.int .i64 5,.int .i64 2,.int .i64 2,.int .i64 11,.int .i64 10,.int .i64 4,.int .i64 3] 3;generalize w4.alloc (.cells #[.int .i64 12,.int .i64 12,.int .i64 6,.int .i64 5,.int .i64 2,.int .i64 2,.int .i64 11,.int .i64 10,.int .i64 4,.int .i64 3] 3)=w5 at f5 ⊢;clear f4;go_wp2_with fail;refine (Sbranch.out _).mono ?_;rintro e wx ⟨rfl,rfl⟩
 go_wp2_with fail;refine (Cg.out _).mono ?_;rintro e wx ⟨rfl,rfl⟩;go_wp2_with fail;refine (Ck.out _).mono ?_;rintro e wx ⟨rfl,rfl⟩;rcases h with ⟨rfl,rfl,rfl,rfl,rfl⟩|⟨rfl,rfl,hf,rfl,rfl⟩|⟨rfl,rfl,rfl,rfl,rfl,rfl⟩|⟨rfl,rfl,rfl,hn,hn2,rfl,rfl⟩|⟨rfl,rfl,hr,hr2,rfl,rfl,rfl⟩|⟨rfl,rfl,hr,hr2,hn,hn2,rfl,rfl⟩|⟨rfl,rfl,rfl,rfl⟩|⟨rfl,rfl,hr,rfl,rfl⟩|⟨rfl,rfl,hr,rfl,rfl⟩|⟨rfl,rfl,rfl,rfl⟩|⟨rfl,rfl,rfl,rfl⟩;all_goals (
  (try have hr':(0:Int)<(rd:Int):=by omega)
  (try have hf':(0:Int)<(xf:Int):=by omega)
  go_wp2_with fail;first
  | ((with_reducible refine (Pframe.out w5 _ (by rfl)).mono ?_);rintro e wx ⟨rfl,rfl⟩;have f6:=f5.alloc #[.int .i64 10,.int .i64 7,.int .i64 12,.int .i64 11,.int .i64 5,.int .i64 5,.int .i64 6,.int .i64 6] 3;generalize w5.alloc (.cells #[.int .i64 10,.int .i64 7,.int .i64 12,.int .i64 11,.int .i64 5,.int .i64 5,.int .i64 6,.int .i64 6] 3)=w6 at f6 ⊢)
  | ((with_reducible refine (Pstack.out w5 _ (by rfl)).mono ?_);rintro e wx ⟨rfl,rfl⟩;have f6:=f5.alloc #[.int .i64 12,.int .i64 12,.int .i64 4,.int .i64 3,.int .i64 5,.int .i64 5,.int .i64 2,.int .i64 2,.int .i64 6,.int .i64 6] 3;generalize w5.alloc (.cells #[.int .i64 12,.int .i64 12,.int .i64 4,.int .i64 3,.int .i64 5,.int .i64 5,.int .i64 2,.int .i64 2,.int .i64 6,.int .i64 6] 3)=w6 at f6 ⊢;go_wp2_with fail;refine (Sstack.out _).mono ?_;rintro e wx ⟨rfl,rfl⟩)
  | ((with_reducible refine (Pjump.out w5 _ (by rfl)).mono ?_);rintro e wx ⟨rfl,rfl⟩;have f6:=f5.alloc #[.int .i64 12,.int .i64 12,.int .i64 8,.int .i64 8,.int .i64 10,.int .i64 9,.int .i64 6,.int .i64 6,.int .i64 7,.int .i64 7,.int .i64 2,.int .i64 2,.int .i64 11,.int .i64 11,.int .i64 5,.int .i64 3] 3;generalize w5.alloc (.cells #[.int .i64 12,.int .i64 12,.int .i64 8,.int .i64 8,.int .i64 10,.int .i64 9,.int .i64 6,.int .i64 6,.int .i64 7,.int .i64 7,.int .i64 2,.int .i64 2,.int .i64 11,.int .i64 11,.int .i64 5,.int .i64 3] 3)=w6 at f6 ⊢;go_wp2_with fail;refine (Sjump.out _).mono ?_;rintro e wx ⟨rfl,rfl⟩)
  | ((with_reducible refine (Ploadw.out w5 _ (by rfl)).mono ?_);rintro e wx ⟨rfl,rfl⟩;have f6:=f5.alloc #[.int .i64 3,.int .i64 2,.int .i64 12,.int .i64 12,.int .i64 6,.int .i64 4] 3;generalize w5.alloc (.cells #[.int .i64 3,.int .i64 2,.int .i64 12,.int .i64 12,.int .i64 6,.int .i64 4] 3)=w6 at f6 ⊢)
  | ((with_reducible refine (Ploadd.out w5 _ (by rfl)).mono ?_);rintro e wx ⟨rfl,rfl⟩;have f6:=f5.alloc #[.int .i64 4,.int .i64 2,.int .i64 12,.int .i64 12,.int .i64 6,.int .i64 5] 3;generalize w5.alloc (.cells #[.int .i64 4,.int .i64 2,.int .i64 12,.int .i64 12,.int .i64 6,.int .i64 5] 3)=w6 at f6 ⊢)
  | ((with_reducible refine (Pstorew.out w5 _ (by rfl)).mono ?_);rintro e wx ⟨rfl,rfl⟩;have f6:=f5.alloc #[.int .i64 8,.int .i64 7,.int .i64 12,.int .i64 9] 3;generalize w5.alloc (.cells #[.int .i64 8,.int .i64 7,.int .i64 12,.int .i64 9] 3)=w6 at f6 ⊢)
  | ((with_reducible refine (Pstored.out w5 _ (by rfl)).mono ?_);rintro e wx ⟨rfl,rfl⟩;have f6:=f5.alloc #[.int .i64 9,.int .i64 7,.int .i64 12,.int .i64 10] 3;generalize w5.alloc (.cells #[.int .i64 9,.int .i64 7,.int .i64 12,.int .i64 10] 3)=w6 at f6 ⊢)
  clear f5;first
  | (
   obtain ⟨b0,b1,b2,b3,b4,b5,b6⟩:=f6.box.seven;have z:=f6.box.free;go_upto_region 60 with (fail);refine zHZ (Φ:=fun W=>Code.wp _ _ _ _ W) (by repeat' (first|with_reducible exact f6|with_reducible apply FrR.set)) (fun w9 f9=>?_);simp only [qa] at f9;clear b0 b1 b2 b3 b4 b5 b6 z f6;obtain ⟨b0,b1,b2,b3,b4,b5,b6⟩:=f9.box.seven;have z:=f9.box.free;obtain ⟨q0,q1,q2,q3,q4,q5,q6⟩:=f9.res.seven;have y:=f9.res.free;go_wp2;refine zzb (zAE rfl _ _ w.heap.size _ _ _ _ _ _ _ rfl ((f9.set 6 (.int .i64 2)).res.zA _ _ _ _ _ _ _)) rfl ⟨rfl,?_⟩;exact (f9.set 6 (.int .i64 2)).kp.zA (zzr _) _ _ _ _ _ _ _
   done)
  | (
   obtain ⟨b0,b1,b2,b3,b4,b5,b6⟩:=f6.box.seven;have z:=f6.box.free;obtain ⟨q0,q1,q2,q3,q4,q5,q6⟩:=f6.res.seven;have y:=f6.res.free;go_wp2;refine zzb (zAE rfl _ _ w.heap.size _ _ _ _ _ _ _ rfl ((f6).res.zA _ _ _ _ _ _ _)) rfl ⟨rfl,?_⟩;exact (f6).kp.zA (zzr _) _ _ _ _ _ _ _
   done))
def refx_add0 (s:Nat) (w:World) (hs:s<65536) (hg:pc s 0 2=0) (hk:pc s 13 3=0) (c0:zAa s=0):=zBu s _ _ w hs (.inl ⟨hg,hk,c0,rfl,rfl⟩)
def refx_addi4 (s:Nat) (w:World) (hs:s<65536) (hg:pc s 0 2=0) (hk:pc s 13 3=0) (c0:0<zAa s):=zBu s _ _ w hs (.inr (.inl ⟨hg,hk,c0,rfl,rfl⟩))
def refx_stack0 (s:Nat) (w:World) (hs:s<65536) (hg:pc s 0 2=1) (hk:pc s 13 3=3) (c0:pc s 7 5=2) (c1:low (zAN s:Nat) 10=0):=zBu s _ _ w hs (.inr (.inr (.inl ⟨hg,hk,c0,c1,rfl,rfl⟩)))
def refx_stack (s:Nat) (w:World) (hs:s<65536) (hg:pc s 0 2=1) (hk:pc s 13 3=3) (c0:pc s 7 5=2) (c1:(low (zAN s:Nat) 10==0)=false) (c2:(low (zAN s:Nat) 10 != 0)=true):=zBu s _ _ w hs (.inr (.inr (.inr (.inl ⟨hg,hk,c0,c1,c2,rfl,rfl⟩))))
def refx_lui0 (s:Nat) (w:World) (hs:s<65536) (hg:pc s 0 2=1) (hk:pc s 13 3=3) (c0:(((pc s 7 5:Nat):Int)==2)=false) (c1:(((pc s 7 5:Nat):Int) != 2)=true) (c2:low (zN s:Nat) 6=0):=zBu s _ _ w hs (.inr (.inr (.inr (.inr (.inl ⟨hg,hk,c0,c1,c2,rfl,rfl⟩)))))
def refx_lui (s:Nat) (w:World) (hs:s<65536) (hg:pc s 0 2=1) (hk:pc s 13 3=3) (c0:(((pc s 7 5:Nat):Int)==2)=false) (c1:(((pc s 7 5:Nat):Int) != 2)=true) (c2:(low (zN s:Nat) 6==0)=false) (c3:(low (zN s:Nat) 6 != 0)=true):=zBu s _ _ w hs (.inr (.inr (.inr (.inr (.inr (.inl ⟨hg,hk,c0,c1,c2,c3,rfl,rfl⟩))))))
def refx_jal (s:Nat) (w:World) (hs:s<65536) (hg:pc s 0 2=1) (hk:pc s 13 3=5):=zBu s _ _ w hs (.inr (.inr (.inr (.inr (.inr (.inr (.inl ⟨hg,hk,rfl,rfl⟩)))))))
def refx_lwsp (s:Nat) (w:World) (hs:s<65536) (hg:pc s 0 2=2) (hk:pc s 13 3=2) (c0:0<pc s 7 5):=zBu s _ _ w hs (.inr (.inr (.inr (.inr (.inr (.inr (.inr (.inl ⟨hg,hk,c0,rfl,rfl⟩))))))))
def refx_ldsp (s:Nat) (w:World) (hs:s<65536) (hg:pc s 0 2=2) (hk:pc s 13 3=3) (c0:0<pc s 7 5):=zBu s _ _ w hs (.inr (.inr (.inr (.inr (.inr (.inr (.inr (.inr (.inl ⟨hg,hk,c0,rfl,rfl⟩)))))))))
def refx_swsp (s:Nat) (w:World) (hs:s<65536) (hg:pc s 0 2=2) (hk:pc s 13 3=6):=zBu s _ _ w hs (.inr (.inr (.inr (.inr (.inr (.inr (.inr (.inr (.inr (.inl ⟨hg,hk,rfl,rfl⟩))))))))))
def refx_sdsp (s:Nat) (w:World) (hs:s<65536) (hg:pc s 0 2=2) (hk:pc s 13 3=7):=zBu s _ _ w hs (.inr (.inr (.inr (.inr (.inr (.inr (.inr (.inr (.inr (.inr (⟨hg,hk,rfl,rfl⟩)))))))))))
theorem zEk (s:Nat) (A:Array Value) (o:Bool) (w:World) (hs:s<65536) (hg:pc s 0 2=1) (hk:pc s 13 3=4) (e0 e1 e2 e3 e4:Int) (HE:∀ w',Calls prog 93 #[.int .u16 s,.int .i64 ((pc s 7 3:Nat)+8),.int .i64 ((pc s 2 3:Nat)+8),.int .i64 ((zN s:Nat):Int)] w' fun e w''=>e=.returned (.agg (I7 e0 e1 e2 e3 e4 0 0))∧Kp none w' w'') (h:(e0=0∧A=I7 0 0 0 0 0 0 0∧o=false)∨((e0==0)=false∧A=I7 e0 e1 e2 e3 e4 0 2∧o=true)) :
  Calls prog 53 #[.int .u16 s] w fun e w'=>e=.returned (.tuple #[.agg A,.bool o])∧Kp none w w':=by
 have f1:=FrR.two w (I7 0 0 0 0 0 0 2);obtain ⟨Cg,Ck,Hg,Hk,Crd,Hrd,Cr2,Hr2,Ca,Ha,Cb,Hb,Psix,Hsix,Ssix,lsix,msix,Pwords,Hwords,Pdoubles,Hdoubles,Pbranch,Hbranch,Sbranch,lbranch,mbranch⟩:=zHu s hs;rw [hg] at Cg Hg;rw [hk] at Ck Hk;clear hg hk;generalize pc s 7 5=rd at *;generalize pc s 2 5=r2 at *;generalize pc s 7 3=a at *;generalize pc s 2 3=b at *;generalize zN s=x6 at *;generalize low (x6:Int) 6=d6 at *;generalize zBL s=xw at *;generalize zAH s=xd at *;generalize zz s=xb at *;generalize low (xb:Int) 9=d9 at *;have CE:=hid HE;clear HE;go_enter func53,ntmps53;go_wp2_with fail;refine (Crd.out _).mono ?_;rintro e wx ⟨rfl,rfl⟩;generalize (w.alloc (.cells (I7 0 0 0 0 0 0 0) 38)).alloc (.cells (I7 0 0 0 0 0 0 2) 38)=w1 at f1 ⊢;go_wp2_with fail;refine (Cr2.out _).mono ?_;rintro e wx ⟨rfl,rfl⟩;go_wp2_with fail;refine (Ca.out _).mono ?_;rintro e wx ⟨rfl,rfl⟩;go_wp2_with fail;refine (Cb.out _).mono ?_;rintro e wx ⟨rfl,rfl⟩;go_wp2_with fail;refine (Psix.out w1 _ (by rfl)).mono ?_;rintro e wx ⟨rfl,rfl⟩;have f2:=f1.alloc #[.int .i64 12,.int .i64 12,.int .i64 6,.int .i64 2] 3;generalize w1.alloc (.cells #[.int .i64 12,.int .i64 12,.int .i64 6,.int .i64 2] 3)=w2 at f2 ⊢;clear f1;go_wp2_with fail;refine (Ssix.out _).mono ?_;rintro e wx ⟨rfl,rfl⟩;go_wp2_with fail;refine (Pwords.out w2 _ (by rfl)).mono ?_;rintro e wx ⟨rfl,rfl⟩;have f3:=f2.alloc #[.int .i64 5,.int .i64 5,.int .i64 12,.int .i64 10,.int .i64 6,.int .i64 6] 3;generalize w2.alloc (.cells #[.int .i64 5,.int .i64 5,.int .i64 12,.int .i64 10,.int .i64 6,.int .i64 6] 3)=w3 at f3 ⊢;clear f2;go_wp2_with fail;refine (Pdoubles.out w3 _ (by rfl)).mono ?_;rintro e wx ⟨rfl,rfl⟩;have f4:=f3.alloc #[.int .i64 6,.int .i64 5,.int .i64 12,.int .i64 10] 3
 generalize w3.alloc (.cells #[.int .i64 6,.int .i64 5,.int .i64 12,.int .i64 10] 3)=w4 at f4 ⊢;clear f3;go_wp2_with fail;refine (Pbranch.out w4 _ (by rfl)).mono ?_;rintro e wx ⟨rfl,rfl⟩;have f5:=f4.alloc #[.int .i64 12,.int .i64 12,.int .i64 6,.int .i64 5,.int .i64 2,.int .i64 2,.int .i64 11,.int .i64 10,.int .i64 4,.int .i64 3] 3;generalize w4.alloc (.cells #[.int .i64 12,.int .i64 12,.int .i64 6,.int .i64 5,.int .i64 2,.int .i64 2,.int .i64 11,.int .i64 10,.int .i64 4,.int .i64 3] 3)=w5 at f5 ⊢;clear f4;go_wp2_with fail;refine (Sbranch.out _).mono ?_;rintro e wx ⟨rfl,rfl⟩;go_wp2_with fail;refine (Cg.out _).mono ?_;rintro e wx ⟨rfl,rfl⟩;go_wp2_with fail;refine (Ck.out _).mono ?_;rintro e wx ⟨rfl,rfl⟩;go_wp2_with fail;refine (CE.out _).mono ?_;rintro e w6 ⟨rfl,hq⟩;have f6:=f5.call hq;clear f5 hq CE;obtain ⟨b0,b1,b2,b3,b4,b5,b6⟩:=f6.box.seven;have z:=f6.box.free;go_upto_region 60 with (fail);refine zHZ (Φ:=fun W=>Code.wp _ _ _ _ W) (by repeat' (first|with_reducible exact f6|with_reducible apply FrR.set)) (fun w9 f9=>?_);simp only [qa] at f9;clear b0 b1 b2 b3 b4 b5 b6 z f6;obtain ⟨b0,b1,b2,b3,b4,b5,b6⟩:=f9.box.seven;have z:=f9.box.free;obtain ⟨q0,q1,q2,q3,q4,q5,q6⟩:=f9.res.seven;have y:=f9.res.free;rcases h with ⟨rfl,rfl,rfl⟩|⟨h0,rfl,rfl⟩
 ·go_wp2;refine zzb (zAE rfl _ _ w.heap.size _ _ _ _ _ _ _ rfl ((f9).res.zA _ _ _ _ _ _ _)) rfl ⟨rfl,?_⟩;exact (f9).kp.zA (zzr _) _ _ _ _ _ _ _
 ·go_wp2;refine zzb (zAE rfl _ _ w.heap.size _ _ _ _ _ _ _ rfl ((f9.set 6 (.int .i64 2)).res.zA _ _ _ _ _ _ _)) rfl ⟨rfl,?_⟩;exact (f9.set 6 (.int .i64 2)).kp.zA (zzr _) _ _ _ _ _ _ _
def refx_eight0 (s:Nat) (w:World) (hs:s<65536) (hg:pc s 0 2=1) (hk:pc s 13 3=4) (e1 e2 e3 e4:Int) (HE:∀ w',Calls prog 93 #[.int .u16 s,.int .i64 ((pc s 7 3:Nat)+8),.int .i64 ((pc s 2 3:Nat)+8),.int .i64 ((zN s:Nat):Int)] w' fun e w''=>e=.returned (.agg (I7 0 e1 e2 e3 e4 0 0))∧Kp none w' w''):=zEk s _ _ w hs hg hk 0 e1 e2 e3 e4 HE (.inl ⟨rfl,rfl,rfl⟩)
def zDN (s:Nat) (w:World) (hs:s<65536) (hg:pc s 0 2=1) (hk:pc s 13 3=4) (e0 e1 e2 e3 e4:Int) (h0:(e0==0)=false) (HE:∀ w',Calls prog 93 #[.int .u16 s,.int .i64 ((pc s 7 3:Nat)+8),.int .i64 ((pc s 2 3:Nat)+8),.int .i64 ((zN s:Nat):Int)] w' fun e w''=>e=.returned (.agg (I7 e0 e1 e2 e3 e4 0 0))∧Kp none w' w''):=zEk s _ _ w hs hg hk e0 e1 e2 e3 e4 HE (.inr ⟨h0,rfl,rfl⟩)
theorem zEj (s:Nat) (A:Array Value) (o:Bool) (w:World) (hs:s<65536) (hg:pc s 0 2=2) (hk:pc s 13 3=4) (e0 e1 e2 e3 e4:Int) (HE:∀ w',Calls prog 94 #[.int .i64 ((pc s 12 1:Nat):Int),.int .i64 ((pc s 7 5:Nat):Int),.int .i64 ((pc s 2 5:Nat):Int)] w' fun e w''=>e=.returned (.agg (I7 e0 e1 e2 e3 e4 0 0))∧Kp none w' w'') (h:(e0=0∧A=I7 0 0 0 0 0 0 0∧o=false)∨((e0==0)=false∧A=I7 e0 e1 e2 e3 e4 0 2∧o=true)) :
  Calls prog 53 #[.int .u16 s] w fun e w'=>e=.returned (.tuple #[.agg A,.bool o])∧Kp none w w':=by
 have f1:=FrR.two w (I7 0 0 0 0 0 0 2);obtain ⟨Cg,Ck,Hg,Hk,Crd,Hrd,Cr2,Hr2,Ca,Ha,Cb,Hb,Psix,Hsix,Ssix,lsix,msix,Pwords,Hwords,Pdoubles,Hdoubles,Pbranch,Hbranch,Sbranch,lbranch,mbranch⟩:=zHu s hs;rw [hg] at Cg Hg;rw [hk] at Ck Hk;clear hg hk;have Cu:=hid (fun w=>F_at s 12 12 1 w hs (by decide) (by decide) rfl);generalize pc s 12 1=up at *;generalize pc s 7 5=rd at *;generalize pc s 2 5=r2 at *;generalize pc s 7 3=a at *;generalize pc s 2 3=b at *;generalize zN s=x6 at *;generalize low (x6:Int) 6=d6 at *;generalize zBL s=xw at *;generalize zAH s=xd at *;generalize zz s=xb at *;generalize low (xb:Int) 9=d9 at *;have CE:=hid HE;clear HE;go_enter func53,ntmps53;go_wp2_with fail;refine (Crd.out _).mono ?_;rintro e wx ⟨rfl,rfl⟩;generalize (w.alloc (.cells (I7 0 0 0 0 0 0 0) 38)).alloc (.cells (I7 0 0 0 0 0 0 2) 38)=w1 at f1 ⊢;go_wp2_with fail;refine (Cr2.out _).mono ?_;rintro e wx ⟨rfl,rfl⟩;go_wp2_with fail;refine (Ca.out _).mono ?_;rintro e wx ⟨rfl,rfl⟩;go_wp2_with fail;refine (Cb.out _).mono ?_;rintro e wx ⟨rfl,rfl⟩;go_wp2_with fail;refine (Psix.out w1 _ (by rfl)).mono ?_;rintro e wx ⟨rfl,rfl⟩;have f2:=f1.alloc #[.int .i64 12,.int .i64 12,.int .i64 6,.int .i64 2] 3;generalize w1.alloc (.cells #[.int .i64 12,.int .i64 12,.int .i64 6,.int .i64 2] 3)=w2 at f2 ⊢;clear f1;go_wp2_with fail;refine (Ssix.out _).mono ?_;rintro e wx ⟨rfl,rfl⟩;go_wp2_with fail;refine (Pwords.out w2 _ (by rfl)).mono ?_;rintro e wx ⟨rfl,rfl⟩;have f3:=f2.alloc #[.int .i64 5,.int .i64 5,.int .i64 12,.int .i64 10,.int .i64 6,.int .i64 6] 3;generalize w2.alloc (.cells #[.int .i64 5,.int .i64 5,.int .i64 12,.int .i64 10,.int .i64 6,.int .i64 6] 3)=w3 at f3 ⊢;clear f2;go_wp2_with fail;refine (Pdoubles.out w3 _ (by rfl)).mono ?_;rintro e wx ⟨rfl,rfl⟩
 have f4:=f3.alloc #[.int .i64 6,.int .i64 5,.int .i64 12,.int .i64 10] 3;generalize w3.alloc (.cells #[.int .i64 6,.int .i64 5,.int .i64 12,.int .i64 10] 3)=w4 at f4 ⊢;clear f3;go_wp2_with fail;refine (Pbranch.out w4 _ (by rfl)).mono ?_;rintro e wx ⟨rfl,rfl⟩;have f5:=f4.alloc #[.int .i64 12,.int .i64 12,.int .i64 6,.int .i64 5,.int .i64 2,.int .i64 2,.int .i64 11,.int .i64 10,.int .i64 4,.int .i64 3] 3;generalize w4.alloc (.cells #[.int .i64 12,.int .i64 12,.int .i64 6,.int .i64 5,.int .i64 2,.int .i64 2,.int .i64 11,.int .i64 10,.int .i64 4,.int .i64 3] 3)=w5 at f5 ⊢;clear f4;go_wp2_with fail;refine (Sbranch.out _).mono ?_;rintro e wx ⟨rfl,rfl⟩;go_wp2_with fail;refine (Cg.out _).mono ?_;rintro e wx ⟨rfl,rfl⟩;go_wp2_with fail;refine (Ck.out _).mono ?_;rintro e wx ⟨rfl,rfl⟩;go_wp2_with fail;refine (Cu.out _).mono ?_;rintro e wx ⟨rfl,rfl⟩;go_wp2_with fail;refine (CE.out _).mono ?_;rintro e w6 ⟨rfl,hq⟩;have f6:=f5.call hq;clear f5 hq CE;obtain ⟨b0,b1,b2,b3,b4,b5,b6⟩:=f6.box.seven;have z:=f6.box.free;go_upto_region 60 with (fail);refine zHZ (Φ:=fun W=>Code.wp _ _ _ _ W) (by repeat' (first|with_reducible exact f6|with_reducible apply FrR.set)) (fun w9 f9=>?_);simp only [qa] at f9;clear b0 b1 b2 b3 b4 b5 b6 z f6;obtain ⟨b0,b1,b2,b3,b4,b5,b6⟩:=f9.box.seven;have z:=f9.box.free;obtain ⟨q0,q1,q2,q3,q4,q5,q6⟩:=f9.res.seven;have y:=f9.res.free;rcases h with ⟨rfl,rfl,rfl⟩|⟨h0,rfl,rfl⟩
 ·go_wp2;refine zzb (zAE rfl _ _ w.heap.size _ _ _ _ _ _ _ rfl ((f9).res.zA _ _ _ _ _ _ _)) rfl ⟨rfl,?_⟩;exact (f9).kp.zA (zzr _) _ _ _ _ _ _ _
 ·go_wp2;refine zzb (zAE rfl _ _ w.heap.size _ _ _ _ _ _ _ rfl ((f9.set 6 (.int .i64 2)).res.zA _ _ _ _ _ _ _)) rfl ⟨rfl,?_⟩;exact (f9.set 6 (.int .i64 2)).kp.zA (zzr _) _ _ _ _ _ _ _
def refx_moves0 (s:Nat) (w:World) (hs:s<65536) (hg:pc s 0 2=2) (hk:pc s 13 3=4) (e1 e2 e3 e4:Int) (HE:∀ w',Calls prog 94 #[.int .i64 ((pc s 12 1:Nat):Int),.int .i64 ((pc s 7 5:Nat):Int),.int .i64 ((pc s 2 5:Nat):Int)] w' fun e w''=>e=.returned (.agg (I7 0 e1 e2 e3 e4 0 0))∧Kp none w' w''):=zEj s _ _ w hs hg hk 0 e1 e2 e3 e4 HE (.inl ⟨rfl,rfl,rfl⟩)
def zCZ (s:Nat) (w:World) (hs:s<65536) (hg:pc s 0 2=2) (hk:pc s 13 3=4) (e0 e1 e2 e3 e4:Int) (h0:(e0==0)=false) (HE:∀ w',Calls prog 94 #[.int .i64 ((pc s 12 1:Nat):Int),.int .i64 ((pc s 7 5:Nat):Int),.int .i64 ((pc s 2 5:Nat):Int)] w' fun e w''=>e=.returned (.agg (I7 e0 e1 e2 e3 e4 0 0))∧Kp none w' w''):=zEj s _ _ w hs hg hk e0 e1 e2 e3 e4 HE (.inr ⟨h0,rfl,rfl⟩)
variable {im op r1 r2 rd:Int}
theorem ex_some (h:ex s=⟨op,rd,r1,r2,im⟩) (h0:¬ op=0):exI s=I7 op rd r1 r2 im 0 2∧exB s=true:=by
 unfold exI exB;rw [h];exact ⟨if_neg h0,decide_eq_true h0⟩
theorem ex_none (h:ex s=⟨0,rd,r1,r2,im⟩):exI s=I7 0 0 0 0 0 0 0∧exB s=false:=by
 unfold exI exB;rw [h];exact ⟨if_pos rfl,rfl⟩
theorem ne2 {v:Nat} (h:¬ v=2):((v:Int)==2)=false:=by simp;omega
theorem ne2' {v:Nat} (h:¬ v=2):((v:Int) != 2)=true:=by simp;omega
theorem nei {v:Int} (h:¬ v=0):(v==0)=false:=by simp [h]
theorem nei' {v:Int} (h:¬ v=0):(v != 0)=true:=by simp [h]
theorem zGe (s:Nat):low (zAN s:Nat) 10=0↔low (zN s:Nat) 6=0:=by
 have h1:pc s 12 1<2:=zF s 12 1;have h2:pc s 3 2<4:=zF s 3 2;have h3:pc s 5 1<2:=zF s 5 1;have h4:pc s 2 1<2:=zF s 2 1;have h5:pc s 6 1<2:=zF s 6 1;have e:pc s 2 5=pc s 6 1*16+pc s 5 1*8+pc s 3 2*2+pc s 2 1:=by unfold pc;omega
 have e1:low (zAN s:Nat) 10=((zAN s:Nat)+512:Int)%1024 - 512:=rfl;have e2:low (zN s:Nat) 6=((zN s:Nat)+32:Int)%64 - 32:=rfl;rw [e1,e2];unfold zAN zN;rw [e];generalize pc s 12 1=a at *;generalize pc s 3 2=b at *;generalize pc s 5 1=c at *;generalize pc s 2 1=d at *;generalize pc s 6 1=f at *;clear e e1 e2;omega
def zGR (s:Nat) (w:World):Ending→World→Prop:=fun e w'=>e=.returned (.tuple #[.agg (exI s),.bool (exB s)])∧Kp none w w'
theorem zAU (h:ex s=⟨op,rd,r1,r2,im⟩) (h0:¬ op=0)
 (c:Calls prog 53 #[.int .u16 s] w fun e w'=>e=.returned (.tuple #[.agg (I7 op rd r1 r2 im 0 2),.bool true])∧Kp none w w'):Calls prog 53 #[.int .u16 s] w (zGR s w):=by
 obtain ⟨e1,e2⟩:=ex_some h h0;unfold zGR;rw [e1,e2];exact c
theorem zCU (h:ex s=⟨0,rd,r1,r2,im⟩)
 (c:Calls prog 53 #[.int .u16 s] w fun e w'=>e=.returned (.tuple #[.agg (I7 0 0 0 0 0 0 0),.bool false])∧Kp none w w'):Calls prog 53 #[.int .u16 s] w (zGR s w):=by
 obtain ⟨e1,e2⟩:=ex_none h;unfold zGR;rw [e1,e2];exact c
theorem refx_any (s:Nat) (w:World) (hs:s<65536):Calls prog 53 #[.int .u16 s] w (zGR s w):=by
 have hg:=zF s 0 2;have hk:=zF s 13 3;simp only [Nat.reducePow] at hg hk;have hE:ex s=ex s:=rfl
 conv at hE=>rhs;unfold ex
 obtain ⟨g,eg⟩:∃ g,pc s 0 2=g:=⟨_,rfl⟩;obtain ⟨k,ek⟩:∃ k,pc s 13 3=k:=⟨_,rfl⟩;have hx6:zN s<64:=zIo s;rw [eg] at hg hE;rw [ek] at hk hE;have hgs:g=0∨g=1∨g=2∨g=3:=by omega
 have hks:k=0∨k=1∨k=2∨k=3∨k=4∨k=5∨k=6∨k=7:=by omega
 clear hg hk;rcases hgs with rfl|rfl|rfl|rfl
 ·rcases hks with rfl|rfl|rfl|rfl|rfl|rfl|rfl|rfl
  ·by_cases h:zAa s=0
   ·exact zCU (hE.trans (if_pos h)) (refx_add0 s w hs eg ek h)
   ·exact zAU (hE.trans (if_neg h)) (by decide) (refx_addi4 s w hs eg ek (by omega))
  ·exact zCU hE (zAV s 0 1 w hs eg ek (by decide) (by decide) (by decide) (by decide) (by decide) (by decide) (by decide) (by decide) (by decide) (by decide) (by decide) (by decide) (by decide) (by decide) (by decide) (by decide) (by decide) (by decide) (by decide))
  ·exact zAU hE (by decide) (refx_lw s w hs eg ek)
  ·exact zAU hE (by decide) (refx_ld s w hs eg ek)
  ·exact zCU hE (zAV s 0 4 w hs eg ek (by decide) (by decide) (by decide) (by decide) (by decide) (by decide) (by decide) (by decide) (by decide) (by decide) (by decide) (by decide) (by decide) (by decide) (by decide) (by decide) (by decide) (by decide) (by decide))
  ·exact zCU hE (zAV s 0 5 w hs eg ek (by decide) (by decide) (by decide) (by decide) (by decide) (by decide) (by decide) (by decide) (by decide) (by decide) (by decide) (by decide) (by decide) (by decide) (by decide) (by decide) (by decide) (by decide) (by decide))
  ·exact zAU hE (by decide) (refx_sw s w hs eg ek)
  ·exact zAU hE (by decide) (refx_sd s w hs eg ek)
 ·rcases hks with rfl|rfl|rfl|rfl|rfl|rfl|rfl|rfl
  ·exact zAU hE (by decide) (refx_addi s w hs eg ek)
  ·by_cases h:pc s 7 5=0
   ·exact zCU (hE.trans (if_pos h)) (refx_addiw0 s w hs eg ek h)
   ·exact zAU (hE.trans (if_neg h)) (by decide) (refx_addiw s w hs eg ek (by omega))
  ·exact zAU hE (by decide) (refx_li s w hs eg ek)
  ·have hE1:ex s=zDw s:=hE;unfold zDw at hE1;by_cases h:low (zN s:Nat) 6=0
   ·have hE2:ex s=Sh.zero:=hE1.trans (if_pos h);by_cases h2:pc s 7 5=2
    ·exact zCU hE2 (refx_stack0 s w hs eg ek h2 ((zGe s).2 h))
    ·exact zCU hE2 (refx_lui0 s w hs eg ek (ne2 h2) (ne2' h2) h)
   ·rw [if_neg h] at hE1;by_cases h2:pc s 7 5=2
    ·have h3:¬ low (zAN s:Nat) 10=0:=fun hh=>h ((zGe s).1 hh)
     exact zAU (hE1.trans (if_pos h2)) (by decide) (refx_stack s w hs eg ek h2 (nei h3) (nei' h3))
    ·exact zAU (hE1.trans (if_neg h2)) (by decide) (refx_lui s w hs eg ek (ne2 h2) (ne2' h2) (nei h) (nei' h))
  ·have hE1:ex s=zCP s:=hE;unfold zCP at hE1;have hj:=zF s 10 2;simp only [Nat.reducePow] at hj;by_cases j0:pc s 10 2=0
   ·exact zAU (hE1.trans (if_pos j0)) (by decide) (zDN s w hs eg ek _ _ _ _ _ (by decide) (fun w'=>eight_srli s _ _ _ w' hs hx6 j0))
   rw [if_neg j0] at hE1;by_cases j1:pc s 10 2=1
   ·exact zAU (hE1.trans (if_pos j1)) (by decide) (zDN s w hs eg ek _ _ _ _ _ (by decide) (fun w'=>eight_srai s _ _ _ w' hs hx6 j1))
   rw [if_neg j1] at hE1;by_cases j2:pc s 10 2=2
   ·exact zAU (hE1.trans (if_pos j2)) (by decide) (zDN s w hs eg ek _ _ _ _ _ (by decide) (fun w'=>eight_andi s _ _ _ w' hs hx6 j2))
   rw [if_neg j2] at hE1;by_cases h0:recT.getD (zCH s) 0=0
   ·rw [h0] at hE1;exact zCU hE1 (refx_eight0 s w hs eg ek _ _ _ _ (fun w'=>eight_none s _ _ _ _ w' hs (by omega) h0 rfl))
   ·exact zAU hE1 h0 (zDN s w hs eg ek _ _ _ _ _ (nei h0) (fun w'=>eight_two s _ _ _ _ w' hs (by omega) rfl (nei h0)))
  ·exact zAU hE (by decide) (refx_jal s w hs eg ek)
  ·exact zAU hE (by decide) (refx_beq s w hs eg ek)
  ·exact zAU hE (by decide) (refx_bne s w hs eg ek)
 ·rcases hks with rfl|rfl|rfl|rfl|rfl|rfl|rfl|rfl
  ·exact zAU hE (by decide) (refx_slli s w hs eg ek)
  ·exact zCU hE (zAV s 2 1 w hs eg ek (by decide) (by decide) (by decide) (by decide) (by decide) (by decide) (by decide) (by decide) (by decide) (by decide) (by decide) (by decide) (by decide) (by decide) (by decide) (by decide) (by decide) (by decide) (by decide))
  ·by_cases h:pc s 7 5=0
   ·exact zCU (hE.trans (if_pos h)) (refx_lwsp0 s w hs eg ek h)
   ·exact zAU (hE.trans (if_neg h)) (by decide) (refx_lwsp s w hs eg ek (by omega))
  ·by_cases h:pc s 7 5=0
   ·exact zCU (hE.trans (if_pos h)) (refx_ldsp0 s w hs eg ek h)
   ·exact zAU (hE.trans (if_neg h)) (by decide) (refx_ldsp s w hs eg ek (by omega))
  ·have hE1:ex s=zDF s:=hE;unfold zDF at hE1;by_cases h2:pc s 2 5=0
   ·rw [if_pos h2] at hE1;by_cases hr:pc s 7 5=0
    ·rw [if_pos hr] at hE1;by_cases hb:pc s 12 1=1
     ·exact zAU (hE1.trans (if_pos hb)) (by decide) (zCZ s w hs eg ek _ _ _ _ _ (by decide) (fun w'=>by rw [hb,hr,h2];exact moves_break 0 0 w' rfl rfl))
     ·exact zCU (hE1.trans (if_neg hb)) (refx_moves0 s w hs eg ek _ _ _ _ (fun w'=>by rw [bit2 s hb,hr,h2];exact moves_none 0 0 w' rfl rfl))
    ·rw [if_neg hr] at hE1;by_cases hb:pc s 12 1=1
     ·exact zAU (hE1.trans (if_pos hb)) (by decide) (zCZ s w hs eg ek _ _ _ _ _ (by decide) (fun w'=>by rw [hb,h2];exact moves_jalr (pc s 7 5) 0 w' rfl (ne0 hr)))
     ·exact zAU (hE1.trans (if_neg hb)) (by decide) (zCZ s w hs eg ek _ _ _ _ _ (by decide) (fun w'=>by rw [bit2 s hb,h2];exact moves_jr (pc s 7 5) 0 w' rfl (ne0 hr)))
   ·rw [if_neg h2] at hE1;by_cases hb:pc s 12 1=1
    ·exact zAU (hE1.trans (if_pos hb)) (by decide) (zCZ s w hs eg ek _ _ _ _ _ (by decide) (fun w'=>by rw [hb];exact moves_add (pc s 7 5) (pc s 2 5) w' (ne0 h2)))
    ·exact zAU (hE1.trans (if_neg hb)) (by decide) (zCZ s w hs eg ek _ _ _ _ _ (by decide) (fun w'=>by rw [bit2 s hb];exact moves_mv (pc s 7 5) (pc s 2 5) w' (ne0 h2)))
  ·exact zCU hE (zAV s 2 5 w hs eg ek (by decide) (by decide) (by decide) (by decide) (by decide) (by decide) (by decide) (by decide) (by decide) (by decide) (by decide) (by decide) (by decide) (by decide) (by decide) (by decide) (by decide) (by decide) (by decide))
  ·exact zAU hE (by decide) (refx_swsp s w hs eg ek)
  ·exact zAU hE (by decide) (refx_sdsp s w hs eg ek)
 ·rcases hks with rfl|rfl|rfl|rfl|rfl|rfl|rfl|rfl
  ·exact zCU hE (zAV s 3 0 w hs eg ek (by decide) (by decide) (by decide) (by decide) (by decide) (by decide) (by decide) (by decide) (by decide) (by decide) (by decide) (by decide) (by decide) (by decide) (by decide) (by decide) (by decide) (by decide) (by decide))
  ·exact zCU hE (zAV s 3 1 w hs eg ek (by decide) (by decide) (by decide) (by decide) (by decide) (by decide) (by decide) (by decide) (by decide) (by decide) (by decide) (by decide) (by decide) (by decide) (by decide) (by decide) (by decide) (by decide) (by decide))
  ·exact zCU hE (zAV s 3 2 w hs eg ek (by decide) (by decide) (by decide) (by decide) (by decide) (by decide) (by decide) (by decide) (by decide) (by decide) (by decide) (by decide) (by decide) (by decide) (by decide) (by decide) (by decide) (by decide) (by decide))
  ·exact zCU hE (zAV s 3 3 w hs eg ek (by decide) (by decide) (by decide) (by decide) (by decide) (by decide) (by decide) (by decide) (by decide) (by decide) (by decide) (by decide) (by decide) (by decide) (by decide) (by decide) (by decide) (by decide) (by decide))
  ·exact zCU hE (zAV s 3 4 w hs eg ek (by decide) (by decide) (by decide) (by decide) (by decide) (by decide) (by decide) (by decide) (by decide) (by decide) (by decide) (by decide) (by decide) (by decide) (by decide) (by decide) (by decide) (by decide) (by decide))
  ·exact zCU hE (zAV s 3 5 w hs eg ek (by decide) (by decide) (by decide) (by decide) (by decide) (by decide) (by decide) (by decide) (by decide) (by decide) (by decide) (by decide) (by decide) (by decide) (by decide) (by decide) (by decide) (by decide) (by decide))
  ·exact zCU hE (zAV s 3 6 w hs eg ek (by decide) (by decide) (by decide) (by decide) (by decide) (by decide) (by decide) (by decide) (by decide) (by decide) (by decide) (by decide) (by decide) (by decide) (by decide) (by decide) (by decide) (by decide) (by decide))
  ·exact zCU hE (zAV s 3 7 w hs eg ek (by decide) (by decide) (by decide) (by decide) (by decide) (by decide) (by decide) (by decide) (by decide) (by decide) (by decide) (by decide) (by decide) (by decide) (by decide) (by decide) (by decide) (by decide) (by decide))
end Go.Proofs.YtlhpodholnfppaaGreatDoor.Td
namespace Go.Proofs.YtlhpodholnfppaaGreatDoor
open Go.Proofs.Tryz
open Go.RowKit
variable {b0 b1 mo:Int} {P:List Pg} {rb:Nat} {w:World}
theorem rinst_any {S:Nat → Prop} {M:Nat → Int} (h:RP S w rb P M mo b0 b1) (pc:Nat) (hpc:pc < 2 ^ 64):
    Calls prog 31 #[zB rb,.int .u64 (pc:Int)] w fun e w'=>∃ A,zBl (regs P) M pc A∧e = .returned A.v∧Bl w w':=by
  have cf:=fun W (k:Bl w W)=>rp_fetch (h.bl k) pc hpc
  have CF:=hid cf;clear cf
  have HBY:=hid h.by_;clear h
  have CI:=hid (fun y W (hy:y < 4294967296)=>Tr.zJr y W hy)
  have CX:=hid (fun y W (hy:y < 65536)=>Td.refx_any y W hy)
  have hpcI:(pc:Int) ≤ 18446744073709551615:=by omega
  have K0:=hid ((Bl.new w (.cells (Td.I7 0 0 0 0 0 0 0) 38)).alloc (.cells #[.int .i64 0,.int .i64 0,.int .u64 0] 33))
  have A0:=hid ((Bl.new (w.alloc (.cells (Td.I7 0 0 0 0 0 0 0) 38)) (.cells #[.int .i64 0,.int .i64 0,.int .u64 0] 33)).at_ (zzn w (.cells (Td.I7 0 0 0 0 0 0 0) 38)))
  have A1:Hid (((w.alloc (.cells (Td.I7 0 0 0 0 0 0 0) 38)).alloc (.cells #[.int .i64 0,.int .i64 0,.int .u64 0] 33)).heap[w.heap.size + 1]? = some (.cells #[.int .i64 0,.int .i64 0,.int .u64 0] 33 (0,0))):=hid (by
    have:=zzn (w.alloc (.cells (Td.I7 0 0 0 0 0 0 0) 38)) (.cells #[.int .i64 0,.int .i64 0,.int .u64 0] 33)
    rw [show (w.alloc (.cells (Td.I7 0 0 0 0 0 0 0) 38)).heap.size = w.heap.size + 1 by simp] at this
    exact this)
  unfold zB at *
  go_enter func31,ntmps31
  go_wp2_with fail
  with_reducible refine (CF.out _ K0.out).mono ?_
  rintro e w1 ⟨y,k,x,rfl,hf,kk⟩
  have HF:=hid hf;clear hf
  have K1:=hid (K0.out.trans kk)
  have B0:=hid (kk.at_ A0.out)
  have B1:=hid (kk.at_ A1.out)
  clear kk CF
  unfold zt
  have hlt:w.heap.size + 1 < w1.heap.size:=zG B1.out
  by_cases hk:k = 0
  · subst hk
    obtain ⟨y0,y1⟩:=zJN HBY.out HF.out
    obtain ⟨m,rfl⟩:=zze y0
    have hm:m < 4294967296:=by omega
    have W2K:=hid (K1.out.alloc (.cells #[.int .i64 0,.int .u64 x] 31))
    have hb2:=zzn w1 (.cells #[.int .i64 0,.int .u64 x] 31)
    obtain ⟨d0,d1⟩:=zK hb2
    have C0:=hid ((Bl.new w1 (.cells #[.int .i64 0,.int .u64 x] 31)).at_ B0.out)
    have C1:=hid ((Bl.new w1 (.cells #[.int .i64 0,.int .u64 x] 31)).at_ B1.out)
    clear hb2 y0 y1
    have hmI:(m:Int) < 4294967296:=by omega
    by_cases hm4:m % 4 ≠ 3
    · go_wp2_with fail
      with_reducible refine (CI.out m _ hm).mono ?_
      rintro e w2 ⟨rfl,kk0⟩
      have kk:=Td.Kp.bl kk0
      have hsz:w1.heap.size < w2.heap.size:=by have:=kk.size;simp at this;omega
      have K2:=hid (W2K.out.trans kk)
      have E0:=hid (kk.at_ C0.out)
      have E1:=hid (kk.at_ C1.out)
      clear kk kk0 C0 C1 B0 B1 d0 d1 W2K CI
      obtain ⟨⟨z0,z1,z2,z3,z4,z5,z6⟩,hZ⟩:∃ i:Td.Ins,Td.dec m = i:=⟨_,rfl⟩
      rw [hZ]
      unfold Td.Ins.cells
      obtain ⟨oz,hoz⟩:∃ o,decide (Td.opW m ≠ 0) = o:=⟨_,rfl⟩
      rw [hoz]
      clear hZ hoz
      have t4:((m:Int) % 4 != 3) = true:=by simp;omega
      have hb3:=zzn w2 (.cells (Td.I7 z0 z1 z2 z3 z4 z5 z6) 38)
      have K3:=hid (K2.out.alloc (.cells (Td.I7 z0 z1 z2 z3 z4 z5 z6) 38))
      have G0:=hid ((Bl.new w2 (.cells (Td.I7 z0 z1 z2 z3 z4 z5 z6) 38)).at_ E0.out)
      have G1:=hid ((Bl.new w2 (.cells (Td.I7 z0 z1 z2 z3 z4 z5 z6) 38)).at_ E1.out)
      have HB3:=hid hb3
      clear hb3
      go_upto_region 6 with (fail)
      generalize w2.alloc (.cells (Td.I7 z0 z1 z2 z3 z4 z5 z6) 38) = W at *
      have HCV:Hid ((m:Int) % 65536 = ((m % 65536:Nat):Int)):=hid (by omega)
      go_wp2_with fail
      have hw16:IntKind.u16.wrap (m:Int) = ((m % 65536:Nat):Int):=by rw [IntKind.wrap_u16];omega
      first | rw [hw16] | rw [HCV.out]
      with_reducible refine (CX.out (m % 65536) _ (by omega)).mono ?_
      rintro e w3 ⟨rfl,kk0⟩
      have kk:=Td.Kp.bl kk0
      rw [← zDu hm4,← zEU hm4]
      have hsz3:w2.heap.size < w3.heap.size:=zG (kk.at_ HB3.out)
      have K4:=hid (K3.out.trans kk)
      have J0:=hid (kk.at_ G0.out)
      have J1:=hid (kk.at_ G1.out)
      have J2:=hid (kk.at_ HB3.out)
      clear kk kk0 HB3 G0 G1 CX hm4 hw16
      obtain ⟨⟨a0,a1,a2,a3,a4,a5,a6⟩,hE⟩:∃ i:Td.Ins,zCs m = i:=⟨_,rfl⟩
      rw [hE]
      unfold Td.Ins.cells
      have HEE:=hid hE
      clear hE
      obtain ⟨q0,q1,q2,q3,q4,q5,q6⟩:=zI J2.out
      have y0:=free_at J2.out
      go_upto_region 7 with (fail)
      have QB:=hid (set7 (.int .i64 a0) (.int .i64 a1) (.int .i64 a2) (.int .i64 a3) (.int .i64 a4) (.int .i64 a5) (.int .i64 a6) J2.out)
      have QK:=hid (bl7 K4.out (g:=w2.heap.size) (by have:=K2.out.size;omega) (.int .i64 a0) (.int .i64 a1) (.int .i64 a2) (.int .i64 a3) (.int .i64 a4) (.int .i64 a5) (.int .i64 a6))
      have F0:=hid (oth7 J0.out (g:=w2.heap.size) (by omega) (.int .i64 a0) (.int .i64 a1) (.int .i64 a2) (.int .i64 a3) (.int .i64 a4) (.int .i64 a5) (.int .i64 a6))
      have F1:=hid (oth7 J1.out (g:=w2.heap.size) (by omega) (.int .i64 a0) (.int .i64 a1) (.int .i64 a2) (.int .i64 a3) (.int .i64 a4) (.int .i64 a5) (.int .i64 a6))
      clear q0 q1 q2 q3 q4 q5 q6 y0
      generalize (((((((w3.setCell ⟨w2.heap.size,0,none⟩ (.int .i64 a0)).setCell ⟨w2.heap.size,1,none⟩ (.int .i64 a1)).setCell ⟨w2.heap.size,2,none⟩ (.int .i64 a2)).setCell ⟨w2.heap.size,3,none⟩ (.int .i64 a3)).setCell ⟨w2.heap.size,4,none⟩ (.int .i64 a4)).setCell ⟨w2.heap.size,5,none⟩ (.int .i64 a5)).setCell ⟨w2.heap.size,6,none⟩ (.int .i64 a6)) = W' at *
      obtain ⟨d0,d1,d2,d3,d4,d5,d6⟩:=zI QB.out
      obtain ⟨e0,e1,e2,e3,e4,e5,e6⟩:=zI F0.out
      obtain ⟨g0,g1,g2⟩:=zD F1.out
      have z0:=free_at F0.out
      have z1:=free_at F1.out
      by_cases hok:okOf m = true
      · have HA:=hid (zHd (pc:=pc) (x:=x) hok)
        rw [hok]
        rw [HEE.out] at HA
        clear hok
        go_wp2_with fail
        obtain ⟨s1,s2,s3⟩:=zBs (w0:=w) (g:=w.heap.size) (g2:=w.heap.size + 1) (by omega) F0.out F1.out (.int .i64 a0) (.int .i64 a1) (.int .i64 a2) (.int .i64 a3) (.int .i64 a4) (.int .i64 a5) (.int .i64 a6) (.int .i64 0) (.int .i64 0) (.int .u64 0) QK.out (by omega) (by omega)
        refine zzb (zS rfl _ _ w.heap.size (w.heap.size + 1) 38 33 _ _ (0,0) (0,0) _ _ rfl s1 underlying38 rfl (by kernel_rfl) rfl s2 underlying33 rfl (by kernel_rfl)) rfl ?_
        exact ⟨_,⟨_,_,_,HF.out,rfl⟩,by rw [HA.out];rfl,s3⟩
      · have hok:okOf m = false:=by simpa using hok
        have HA:=hid (zGO (pc:=pc) (x:=x) hok)
        rw [hok]
        clear hok
        go_wp2_with fail
        obtain ⟨s1,s2,s3⟩:=zBs (w0:=w) (g:=w.heap.size) (g2:=w.heap.size + 1) (by omega) F0.out F1.out (.int .i64 0) (.int .i64 0) (.int .i64 0) (.int .i64 0) (.int .i64 0) (.int .i64 0) (.int .i64 0) (.int .i64 3) (.int .i64 3) (.int .u64 (pc:Int)) QK.out (by omega) (by omega)
        refine zzb (zS rfl _ _ w.heap.size (w.heap.size + 1) 38 33 _ _ (0,0) (0,0) _ _ rfl s1 underlying38 rfl (by kernel_rfl) rfl s2 underlying33 rfl (by kernel_rfl)) rfl ?_
        exact ⟨_,⟨_,_,_,HF.out,rfl⟩,by rw [HA.out];rfl,s3⟩
    · go_wp2_with fail
      with_reducible refine (CI.out m _ hm).mono ?_
      rintro e w2 ⟨rfl,kk0⟩
      have kk:=Td.Kp.bl kk0
      have hsz:w1.heap.size < w2.heap.size:=by have:=kk.size;simp at this;omega
      have K2:=hid (W2K.out.trans kk)
      have E0:=hid (kk.at_ C0.out)
      have E1:=hid (kk.at_ C1.out)
      clear kk kk0 C0 C1 B0 B1 d0 d1 W2K CI
      have hm4':m % 4 = 3:=by omega
      rw [← zDR hm4',← zEE hm4']
      have t4:((m:Int) % 4 != 3) = false:=by simp;omega
      clear hm4 hm4' CX
      obtain ⟨⟨a0,a1,a2,a3,a4,a5,a6⟩,hE⟩:∃ i:Td.Ins,zCs m = i:=⟨_,rfl⟩
      rw [hE]
      unfold Td.Ins.cells
      by_cases hok:okOf m = true
      · have HA:=hid (zHd (pc:=pc) (x:=x) hok)
        rw [hok]
        rw [hE] at HA
        clear hok hE
        have hb3:=zzn w2 (.cells (Td.I7 a0 a1 a2 a3 a4 a5 a6) 38)
        have K3:=hid (K2.out.alloc (.cells (Td.I7 a0 a1 a2 a3 a4 a5 a6) 38))
        have F0:=hid ((Bl.new w2 (.cells (Td.I7 a0 a1 a2 a3 a4 a5 a6) 38)).at_ E0.out)
        have F1:=hid ((Bl.new w2 (.cells (Td.I7 a0 a1 a2 a3 a4 a5 a6) 38)).at_ E1.out)
        go_upto_region 7 with (fail)
        generalize w2.alloc (.cells (Td.I7 a0 a1 a2 a3 a4 a5 a6) 38) = W at *
        obtain ⟨d0,d1,d2,d3,d4,d5,d6⟩:=zI hb3
        obtain ⟨e0,e1,e2,e3,e4,e5,e6⟩:=zI F0.out
        obtain ⟨g0,g1,g2⟩:=zD F1.out
        have z0:=free_at F0.out
        have z1:=free_at F1.out
        clear hb3
        go_wp2_with fail
        obtain ⟨s1,s2,s3⟩:=zBs (w0:=w) (g:=w.heap.size) (g2:=w.heap.size + 1) (by omega) F0.out F1.out (.int .i64 a0) (.int .i64 a1) (.int .i64 a2) (.int .i64 a3) (.int .i64 a4) (.int .i64 a5) (.int .i64 a6) (.int .i64 0) (.int .i64 0) (.int .u64 0) K3.out (by omega) (by omega)
        refine zzb (zS rfl _ _ w.heap.size (w.heap.size + 1) 38 33 _ _ (0,0) (0,0) _ _ rfl s1 underlying38 rfl (by kernel_rfl) rfl s2 underlying33 rfl (by kernel_rfl)) rfl ?_
        exact ⟨_,⟨_,_,_,HF.out,rfl⟩,by rw [HA.out];rfl,s3⟩
      · have hok:okOf m = false:=by simpa using hok
        have HA:=hid (zGO (pc:=pc) (x:=x) hok)
        rw [hok]
        clear hok hE
        have hb3:=zzn w2 (.cells (Td.I7 a0 a1 a2 a3 a4 a5 a6) 38)
        have K3:=hid (K2.out.alloc (.cells (Td.I7 a0 a1 a2 a3 a4 a5 a6) 38))
        have F0:=hid ((Bl.new w2 (.cells (Td.I7 a0 a1 a2 a3 a4 a5 a6) 38)).at_ E0.out)
        have F1:=hid ((Bl.new w2 (.cells (Td.I7 a0 a1 a2 a3 a4 a5 a6) 38)).at_ E1.out)
        go_upto_region 7 with (fail)
        generalize w2.alloc (.cells (Td.I7 a0 a1 a2 a3 a4 a5 a6) 38) = W at *
        obtain ⟨e0,e1,e2,e3,e4,e5,e6⟩:=zI F0.out
        obtain ⟨g0,g1,g2⟩:=zD F1.out
        have z0:=free_at F0.out
        have z1:=free_at F1.out
        clear hb3
        go_wp2_with fail
        obtain ⟨s1,s2,s3⟩:=zBs (w0:=w) (g:=w.heap.size) (g2:=w.heap.size + 1) (by omega) F0.out F1.out (.int .i64 0) (.int .i64 0) (.int .i64 0) (.int .i64 0) (.int .i64 0) (.int .i64 0) (.int .i64 0) (.int .i64 3) (.int .i64 3) (.int .u64 (pc:Int)) K3.out (by omega) (by omega)
        refine zzb (zS rfl _ _ w.heap.size (w.heap.size + 1) 38 33 _ _ (0,0) (0,0) _ _ rfl s1 underlying38 rfl (by kernel_rfl) rfl s2 underlying33 rfl (by kernel_rfl)) rfl ?_
        exact ⟨_,⟨_,_,_,HF.out,rfl⟩,by rw [HA.out];rfl,s3⟩
  · have HA:=hid (zJT (pc:=pc) (y:=y) (x:=x) hk)
    have tk:(k != 0) = true:=by simp [hk]
    clear hk CI CX
    have hb2:=zzn w1 (.cells #[.int .i64 k,.int .u64 x] 31)
    have K3:=hid (K1.out.alloc (.cells #[.int .i64 k,.int .u64 x] 31))
    have F0:=hid ((Bl.new w1 (.cells #[.int .i64 k,.int .u64 x] 31)).at_ B0.out)
    have F1:=hid ((Bl.new w1 (.cells #[.int .i64 k,.int .u64 x] 31)).at_ B1.out)
    go_upto_region 2 with (fail)
    generalize w1.alloc (.cells #[.int .i64 k,.int .u64 x] 31) = W at *
    obtain ⟨d0,d1⟩:=zK hb2
    obtain ⟨e0,e1,e2,e3,e4,e5,e6⟩:=zI F0.out
    obtain ⟨g0,g1,g2⟩:=zD F1.out
    have z0:=free_at F0.out
    have z1:=free_at F1.out
    clear hb2
    go_wp2_with fail
    go_region
    all_goals (
      (try go_wp2_with fail)
      first
      | (obtain ⟨s1,s2,s3⟩:=zBs (w0:=w) (g:=w.heap.size) (g2:=w.heap.size + 1) (by omega) F0.out F1.out (.int .i64 0) (.int .i64 0) (.int .i64 0) (.int .i64 0) (.int .i64 0) (.int .i64 0) (.int .i64 0) (.int .i64 4) (.int .i64 k) (.int .u64 x) K3.out (by omega) (by omega)
         refine zzb (zS rfl _ _ w.heap.size (w.heap.size + 1) 38 33 _ _ (0,0) (0,0) _ _ rfl (zU s1) underlying38 rfl (by kernel_rfl) rfl (zU s2) underlying33 rfl (by kernel_rfl)) rfl ?_
         exact ⟨_,⟨_,_,_,HF.out,rfl⟩,by rw [HA.out];rfl,s3.drew⟩)
      | (obtain ⟨s1,s2,s3⟩:=zEw (w0:=w) (g:=w.heap.size) (g2:=w.heap.size + 1) (by omega) F0.out F1.out (.int .i64 0) (.int .i64 0) (.int .i64 0) (.int .i64 0) (.int .i64 0) (.int .i64 0) (.int .i64 0) (.int .i64 4) (.int .i64 k) (.int .u64 x) K3.out (by omega) (by omega)
         refine zzb (zS rfl _ _ w.heap.size (w.heap.size + 1) 38 33 _ _ (0,0) (0,0) _ _ rfl (zU s1) underlying38 rfl (by kernel_rfl) rfl (zU s2) underlying33 rfl (by kernel_rfl)) rfl ?_
         exact ⟨_,⟨_,_,_,HF.out,rfl⟩,by rw [HA.out];rfl,s3.drew⟩))
theorem zKe (x:Int):x%2=0∨x%2=1:=by omega
theorem zDz (x:Int):zV x 32=((x+2147483648)%4294967296 - 2147483648)%18446744073709551616:=by
 unfold zV;rw [if_pos (by decide)];rfl
theorem zCK (x y:Int) (h:x%4294967296=y%4294967296):zV x 32=zV y 32:=by
 rw [zDz,zDz];omega
theorem quo_pow (s:Int) (n:Nat) (L:Int) (hL:0≤L) (h1:-L≤s) (h2:s<L):-L≤s/2^n∧s/2^n<L:=by
 have hp:=za n
 constructor
 ·rw [Int.le_ediv_iff_mul_le hp]
  have:=Int.mul_le_mul_of_nonneg_left (show (1:Int)≤2^n by omega) hL
  rw [Int.neg_mul];omega
 ·rw [Int.ediv_lt_iff_lt_mul hp]
  have:=Int.mul_le_mul_of_nonneg_left (show (1:Int)≤2^n by omega) hL
  omega
theorem ref_srl (a:Int) (k:Nat) (ha0:0≤a) (ha:a<18446744073709551616):zBm a 0 k=a/2^k:=by
 have h:=zEn a (2^k) ha0 (za k);unfold zBm;rw [Int.zero_mul,Int.sub_zero];omega
theorem ref_sra (a:Int) (k:Nat) (ha0:0≤a) (ha:a<18446744073709551616):zBm a (a/9223372036854775808%2) k=IntKind.u64.wrap (wrap64 a/2^k):=by
 have e:a - a/9223372036854775808%2*18446744073709551616=wrap64 a:=by unfold wrap64;omega
 unfold zBm;rw [e,IntKind.wrap_u64]
theorem ref_sraw (A:Int) (j:Nat) (hA0:0≤A) (hA:A<4294967296):zBm (zV A 32) (A/2147483648%2) j=zV (wrap32 A/2^j%4294967296) 32:=by
 have e:zV A 32 - A/2147483648%2*18446744073709551616=wrap32 A:=by rw [zDz];unfold wrap32;omega
 have hw:-2147483648≤wrap32 A∧wrap32 A<2147483648:=by unfold wrap32;omega
 have hq:=quo_pow (wrap32 A) j 2147483648 (by decide) hw.1 hw.2;unfold zBm;rw [e,zDz];generalize wrap32 A/2^j=t at *;omega
end Go.Proofs.YtlhpodholnfppaaGreatDoor
