/-
  Plain facts: the immediates out of a word's pieces, joined by or and by sums.
  The reference's Decode, for every word: it answers what Decode answers.
-/
import Derived.Test.YtbngjbmfkekdnaaGreatDoorT19
import Derived.Test.YtbngjbmfkekdnaaGreatDoorT21
import Derived.Test.YtbngjbmfkekdnaaGreatDoorT22
import Derived.Test.YtbngjbmfkekdnaaGreatDoorT23
import Derived.Lib.Hide
set_option linter.unusedVariables false
set_option linter.unusedSimpArgs false
set_option maxHeartbeats 16000000
open Go.Lib (hid)
namespace Go.Proofs.YtbngjbmfkekdnaaGreatDoor.Td
open Go.RowKit

theorem i64_or_nat (a b:Nat) (ha:a < 9223372036854775808) (hb:b < 9223372036854775808):bits .or .i64 (a:Int) (b:Int) = ((a ||| b:Nat):Int):=by
  have hx:a ||| b < 2 ^ 63:=Nat.or_lt_two_pow (by omega) (by omega)
  show IntKind.i64.wrap ((BitVec.ofInt 64 (a:Int) ||| BitVec.ofInt 64 (b:Int)).toNat:Int) = _
  rw [BitVec.toNat_or,ofInt_u64 a (by omega),ofInt_u64 b (by omega)]
  exact IntWalk.i64_in _ (by omega)
theorem tk_zero (s a m:Nat):tk s a m 0 = (pc s a m:Nat):=by unfold tk;simp
theorem low32 (n:Int):low n 32 = (n + 2147483648) % 4294967296 - 2147483648:=rfl
theorem low21 (n:Int):low n 21 = (n + 1048576) % 2097152 - 1048576:=rfl
theorem low20' (n:Int):low n 20 = (n + 524288) % 1048576 - 524288:=rfl
theorem low13 (n:Int):low n 13 = (n + 4096) % 8192 - 4096:=rfl
theorem low12' (n:Int):low n 12 = (n + 2048) % 4096 - 2048:=rfl
theorem imU (s:Nat):low (tk s 12 20 12) 32 = low (pc s 12 20:Nat) 20 * 4096:=by
  have h:tk s 12 20 12 = ((pc s 12 20:Nat):Int) * 4096:=by unfold tk;simp
  rw [h,low32,low20']
  omega
theorem orJ (a b c d:Nat) (ha:a < 2) (hb:b < 256) (hc:c < 2) (hd:d < 1024) :
    bits .or .i64 (bits .or .i64 (bits .or .i64 ((a * 2 ^ 20:Nat):Int) ((b * 2 ^ 12:Nat):Int)) ((c * 2 ^ 11:Nat):Int)) ((d * 2 ^ 1:Nat):Int) = ((a * 1048576 + b * 4096 + c * 2048 + d * 2:Nat):Int):=by
  simp only [Nat.reducePow]
  rw [i64_or_nat (a * 1048576) (b * 4096) (by omega) (by omega),nat_join 20 (a * 1048576) (b * 4096) (by show a * 1048576 % 1048576 = 0;omega) (by show b * 4096 < 1048576;omega),
    i64_or_nat _ (c * 2048) (by omega) (by omega),nat_join 12 (a * 1048576 + b * 4096) (c * 2048) (by show (a * 1048576 + b * 4096) % 4096 = 0;omega) (by show c * 2048 < 4096;omega),
    i64_or_nat _ (d * 2) (by omega) (by omega),nat_join 11 (a * 1048576 + b * 4096 + c * 2048) (d * 2) (by show (a * 1048576 + b * 4096 + c * 2048) % 2048 = 0;omega) (by show d * 2 < 2048;omega)]
theorem orB (a b c d:Nat) (ha:a < 2) (hb:b < 2) (hc:c < 64) (hd:d < 16) :
    bits .or .i64 (bits .or .i64 (bits .or .i64 ((a * 2 ^ 12:Nat):Int) ((b * 2 ^ 11:Nat):Int)) ((c * 2 ^ 5:Nat):Int)) ((d * 2 ^ 1:Nat):Int) = ((a * 4096 + b * 2048 + c * 32 + d * 2:Nat):Int):=by
  simp only [Nat.reducePow]
  rw [i64_or_nat (a * 4096) (b * 2048) (by omega) (by omega),nat_join 12 (a * 4096) (b * 2048) (by show a * 4096 % 4096 = 0;omega) (by show b * 2048 < 4096;omega),
    i64_or_nat _ (c * 32) (by omega) (by omega),nat_join 11 (a * 4096 + b * 2048) (c * 32) (by show (a * 4096 + b * 2048) % 2048 = 0;omega) (by show c * 32 < 2048;omega),
    i64_or_nat _ (d * 2) (by omega) (by omega),nat_join 5 (a * 4096 + b * 2048 + c * 32) (d * 2) (by show (a * 4096 + b * 2048 + c * 32) % 32 = 0;omega) (by show d * 2 < 32;omega)]
theorem orS (a b:Nat) (ha:a < 128) (hb:b < 32):bits .or .i64 ((a * 2 ^ 5:Nat):Int) ((b * 2 ^ 0:Nat):Int) = ((a * 32 + b:Nat):Int):=by
  simp only [Nat.reducePow,Nat.mul_one]
  rw [i64_or_nat (a * 32) b (by omega) (by omega),nat_join 5 (a * 32) b (by show a * 32 % 32 = 0;omega) (by show b < 32;omega)]
theorem imJ (s:Nat):low (bits .or .i64 (bits .or .i64 (bits .or .i64 (tk s 31 1 20) (tk s 12 8 12)) (tk s 20 1 11)) (tk s 21 10 1)) 21 =
    low ((((pc s 31 1:Nat) * 256 + (pc s 12 8:Nat)) * 2 + (pc s 20 1:Nat)) * 1024 + (pc s 21 10:Nat):Int) 20 * 2:=by
  have ha:pc s 31 1 < 2:=pc_lt s 31 1
  have hb:pc s 12 8 < 256:=pc_lt s 12 8
  have hc:pc s 20 1 < 2:=pc_lt s 20 1
  have hd:pc s 21 10 < 1024:=pc_lt s 21 10
  unfold tk
  rw [orJ _ _ _ _ ha hb hc hd,low21,low20']
  omega
theorem imB (s:Nat):low (bits .or .i64 (bits .or .i64 (bits .or .i64 (tk s 31 1 12) (tk s 7 1 11)) (tk s 25 6 5)) (tk s 8 4 1)) 13 =
    low ((((pc s 31 1:Nat) * 2 + (pc s 7 1:Nat)) * 64 + (pc s 25 6:Nat)) * 16 + (pc s 8 4:Nat):Int) 12 * 2:=by
  have ha:pc s 31 1 < 2:=pc_lt s 31 1
  have hb:pc s 7 1 < 2:=pc_lt s 7 1
  have hc:pc s 25 6 < 64:=pc_lt s 25 6
  have hd:pc s 8 4 < 16:=pc_lt s 8 4
  unfold tk
  rw [orB _ _ _ _ ha hb hc hd,low13,low12']
  omega
theorem imS (s:Nat):low (bits .or .i64 (tk s 25 7 5) (tk s 7 5 0)) 12 = low ((pc s 25 7:Nat) * 32 + (pc s 7 5:Nat):Int) 12:=by
  have ha:pc s 25 7 < 128:=pc_lt s 25 7
  have hb:pc s 7 5 < 32:=pc_lt s 7 5
  unfold tk
  rw [orS _ _ ha hb]
  congr 1
theorem parts_up (o:Int) (s:Nat):(parts o s .up).cells = I7 o (pc s 7 5:Nat) 0 0 (low (pc s 12 20:Nat) 20 * 4096) 0 4:=by
  show I7 o (tk s 7 5 0) 0 0 (low (tk s 12 20 12) 32) 0 4 = _
  rw [imU,tk_zero]
theorem parts_jp (o:Int) (s:Nat):(parts o s .jp).cells = I7 o (pc s 7 5:Nat) 0 0 (low ((((pc s 31 1:Nat) * 256 + (pc s 12 8:Nat)) * 2 + (pc s 20 1:Nat)) * 1024 + (pc s 21 10:Nat):Int) 20 * 2) 0 4:=by
  rw [← imJ,← tk_zero];rfl
theorem parts_im (o:Int) (s:Nat):(parts o s .im).cells = I7 o (pc s 7 5:Nat) (pc s 15 5:Nat) 0 (low (pc s 20 12:Nat) 12) 0 4:=by
  simp only [← tk_zero];rfl
theorem parts_br (o:Int) (s:Nat):(parts o s .br).cells = I7 o 0 (pc s 15 5:Nat) (pc s 20 5:Nat) (low ((((pc s 31 1:Nat) * 2 + (pc s 7 1:Nat)) * 64 + (pc s 25 6:Nat)) * 16 + (pc s 8 4:Nat):Int) 12 * 2) 0 4:=by
  rw [← imB,← tk_zero,← tk_zero];rfl
theorem parts_st (o:Int) (s:Nat):(parts o s .st).cells = I7 o 0 (pc s 15 5:Nat) (pc s 20 5:Nat) (low ((pc s 25 7:Nat) * 32 + (pc s 7 5:Nat):Int) 12) 0 4:=by
  rw [← imS,← tk_zero,← tk_zero];rfl
theorem parts_rg (o:Int) (s:Nat):(parts o s .rg).cells = I7 o (pc s 7 5:Nat) (pc s 15 5:Nat) (pc s 20 5:Nat) 0 0 4:=by
  simp only [← tk_zero];rfl
theorem parts_am (o:Int) (s:Nat):(parts o s .am).cells = I7 o (pc s 7 5:Nat) (pc s 15 5:Nat) (pc s 20 5:Nat) 0 (pc s 25 2:Nat) 4:=by
  simp only [← tk_zero];rfl
theorem parts_sh (o:Int) (s m:Nat):(parts o s (.sh m)).cells = I7 o (pc s 7 5:Nat) (pc s 15 5:Nat) 0 (pc s 20 m:Nat) 0 4:=by
  simp only [← tk_zero];rfl
theorem parts_ba (o:Int) (s:Nat):(parts o s .ba).cells = I7 o 0 0 0 0 0 4:=rfl
end Go.Proofs.YtbngjbmfkekdnaaGreatDoor.Td

namespace Go.Proofs.YtbngjbmfkekdnaaGreatDoor.Tr
open Go.RowKit
open Td
abbrev DecPost (s:Nat) (w:World):Ending → World → Prop:=fun e w'=>e = .returned (.tuple #[.agg (dec s).cells,.bool (decide (opW s ≠ 0))])∧Kp none w w'
theorem ref_yes {s:Nat} {w:World} {o:Int} {fm:Fm} {A:Array Value} (hop:opW s = o) (hfm:fmW s = fm) (ho:(o == 0) = false) (hA:(parts o s fm).cells = A)
    (h:Calls Tryz.prog 50 #[.int .u32 s] w fun e w'=>e = .returned (.tuple #[.agg A,.bool true])∧Kp none w w'):Calls Tryz.prog 50 #[.int .u32 s] w (DecPost s w):=by
  have ho':o ≠ 0:=by simpa using ho
  have e1:dec s = parts o s fm:=by unfold dec;rw [hop,hfm,if_neg ho']
  have e2:decide (opW s ≠ 0) = true:=by rw [hop];simp [ho']
  unfold DecPost
  rw [e1,e2,hA];exact h
theorem ref_no {s:Nat} {w:World} (hop:opW s = 0)
    (h:Calls Tryz.prog 50 #[.int .u32 s] w fun e w'=>e = .returned (.tuple #[.agg (I7 0 0 0 0 0 0 0),.bool false])∧Kp none w w'):Calls Tryz.prog 50 #[.int .u32 s] w (DecPost s w):=by
  have e1:dec s = zeroI:=if_pos hop
  have e2:decide (opW s ≠ 0) = false:=by simp [hop]
  unfold DecPost
  rw [e1,e2];exact h
theorem nb' {a b:Int} (h:a ≠ b):(a == b) = false:=by simpa using h
theorem up_half (s:Nat):pc s 26 6 = pc s 25 7 / 2:=by unfold pc;simp only [Nat.reducePow];omega
def lrB (o:Int) (z:Bool):Int:=if (o = 63 ∨ o = 74)∧z = true then 0 else o
theorem lrOf_lrB (o:Int) (p:Nat):lrOf o p = lrB o (decide ((p:Int) ≠ 0)):=by
  unfold lrOf lrB
  by_cases h:p = 0
  · simp [h]
  · have:((p:Int) ≠ 0):=by omega
    simp [h,this]
theorem opU_eq:∀ f5:Nat,f5 < 32 → ∀ f3:Nat,f3 < 8 → ∀ z:Bool,opU f5 f3 z 11 = lrB (if f3 = 2 then T17.getD f5 0 else if f3 = 3 then T18.getD f5 0 else 0) z:=by decide
theorem opA_opU (s:Nat):opA s (pc s 12 3) = opU (pc s 27 5) (pc s 12 3) (decide (((pc s 20 5:Nat):Int) ≠ 0)) 11:=by
  rw [opU_eq _ (pc_lt s 27 5) _ (pc_lt s 12 3)]
  unfold opA
  rw [lrOf_lrB]
theorem eq_T0:∀ f:Nat,f < 8 → T0.getD f 0 = ([4]:List Int).getD f 0:=by decide
theorem eq_T2:∀ f:Nat,f < 8 → T2.getD f 0 = ([11,12,13,14,15,16,17]:List Int).getD f 0:=by decide
theorem eq_T1:∀ f:Nat,f < 8 → T1.getD f 0 = ([5,6,0,0,7,8,9,10]:List Int).getD f 0:=by decide
theorem eq_T3:∀ f:Nat,f < 8 → T3.getD f 0 = ([18,19,20,21]:List Int).getD f 0:=by decide
theorem eq_T10:∀ f:Nat,f < 8 → T10.getD f 0 = ([85,86]:List Int).getD f 0:=by decide
theorem eq_T5:∀ f:Nat,f < 8 → T5.getD f 0 = ([32,0,0,0,0,38]:List Int).getD f 0:=by decide
theorem eq_T7:∀ f:Nat,f < 8 → T7.getD f 0 = ([45,47,0,0,0,48]:List Int).getD f 0:=by decide
theorem eq_T8:∀ f:Nat,f < 8 → T8.getD f 0 = ([46,0,0,0,0,49]:List Int).getD f 0:=by decide
theorem eq_T9:∀ f:Nat,f < 8 → T9.getD f 0 = ([58,0,0,0,59,60,61,62]:List Int).getD f 0:=by decide
theorem nz_T4:∀ f:Nat,f < 8 → (([31,33,34,35,36,37,39,40]:List Int).getD f 0 == 0) = false:=by decide
theorem nz_T6:∀ f:Nat,f < 8 → (([50,51,52,53,54,55,56,57]:List Int).getD f 0 == 0) = false:=by decide
theorem nz_T11:∀ f:Nat,f < 8 → f ≠ 1 → f ≠ 5 → (([22,0,23,24,25,0,26,27]:List Int).getD f 0 == 0) = false:=by decide
theorem z_W:∀ f:Nat,f < 8 → f ≠ 0 → f ≠ 1 → f ≠ 5 → ([41]:List Int).getD f 0 = 0∧T15.getD f 0 = 0∧T16.getD f 0 = 0:=by decide
theorem pick_z (g f:Nat) (a b c:List Int) (ha:a.getD f 0 = 0) (hb:b.getD f 0 = 0) (hc:c.getD f 0 = 0):pick3 g a b c f = 0:=by
  unfold pick3;repeat' split
  all_goals first | assumption | rfl

theorem ref_any (s:Nat) (w:World) (hs:s < 4294967296):Calls Tryz.prog 50 #[.int .u32 s] w (DecPost s w):=by
  have hf:pc s 12 3 < 8:=pc_lt s 12 3
  have hg:pc s 25 7 < 128:=pc_lt s 25 7
  by_cases h55:pc s 0 7 = 55
  · have hop:opW s = opC 55 (pc s 12 3) (pc s 25 7) s:=by unfold opW;rw [h55]
    have hfm:fmW s = fmC 55 (pc s 12 3):=by unfold fmW;rw [h55]
    exact ref_yes (o:=1) hop hfm (by decide) (parts_up _ s) (ref_lui s w hs h55)
  by_cases h23:pc s 0 7 = 23
  · have hop:opW s = opC 23 (pc s 12 3) (pc s 25 7) s:=by unfold opW;rw [h23]
    have hfm:fmW s = fmC 23 (pc s 12 3):=by unfold fmW;rw [h23]
    exact ref_yes (o:=2) hop hfm (by decide) (parts_up _ s) (ref_auipc s w hs h23)
  by_cases h111:pc s 0 7 = 111
  · have hop:opW s = opC 111 (pc s 12 3) (pc s 25 7) s:=by unfold opW;rw [h111]
    have hfm:fmW s = fmC 111 (pc s 12 3):=by unfold fmW;rw [h111]
    exact ref_yes (o:=3) hop hfm (by decide) (parts_jp _ s) (ref_jal s w hs h111)
  by_cases h103:pc s 0 7 = 103
  · have hop:opW s = opC 103 (pc s 12 3) (pc s 25 7) s:=by unfold opW;rw [h103]
    have hfm:fmW s = fmC 103 (pc s 12 3):=by unfold fmW;rw [h103]
    have hop2:opW s = ([4]:List Int).getD (pc s 12 3) 0:=hop.trans (eq_T0 _ hf)
    by_cases hz:([4]:List Int).getD (pc s 12 3) 0 = 0
    · exact ref_no (hop2.trans hz) (ref_jalr_z s w hs h103 hz)
    · exact ref_yes hop2 hfm (nb' hz) (parts_im _ s) (ref_jalr s w hs h103 (nb' hz))
  by_cases h99:pc s 0 7 = 99
  · have hop:opW s = opC 99 (pc s 12 3) (pc s 25 7) s:=by unfold opW;rw [h99]
    have hfm:fmW s = fmC 99 (pc s 12 3):=by unfold fmW;rw [h99]
    have hop2:opW s = ([5,6,0,0,7,8,9,10]:List Int).getD (pc s 12 3) 0:=hop.trans (eq_T1 _ hf)
    by_cases hz:([5,6,0,0,7,8,9,10]:List Int).getD (pc s 12 3) 0 = 0
    · exact ref_no (hop2.trans hz) (ref_branch_z s w hs h99 hz)
    · exact ref_yes hop2 hfm (nb' hz) (parts_br _ s) (ref_branch s w hs h99 (nb' hz))
  by_cases h3:pc s 0 7 = 3
  · have hop:opW s = opC 3 (pc s 12 3) (pc s 25 7) s:=by unfold opW;rw [h3]
    have hfm:fmW s = fmC 3 (pc s 12 3):=by unfold fmW;rw [h3]
    have hop2:opW s = ([11,12,13,14,15,16,17]:List Int).getD (pc s 12 3) 0:=hop.trans (eq_T2 _ hf)
    by_cases hz:([11,12,13,14,15,16,17]:List Int).getD (pc s 12 3) 0 = 0
    · exact ref_no (hop2.trans hz) (ref_load_z s w hs h3 hz)
    · exact ref_yes hop2 hfm (nb' hz) (parts_im _ s) (ref_load s w hs h3 (nb' hz))
  by_cases h35:pc s 0 7 = 35
  · have hop:opW s = opC 35 (pc s 12 3) (pc s 25 7) s:=by unfold opW;rw [h35]
    have hfm:fmW s = fmC 35 (pc s 12 3):=by unfold fmW;rw [h35]
    have hop2:opW s = ([18,19,20,21]:List Int).getD (pc s 12 3) 0:=hop.trans (eq_T3 _ hf)
    by_cases hz:([18,19,20,21]:List Int).getD (pc s 12 3) 0 = 0
    · exact ref_no (hop2.trans hz) (ref_store_z s w hs h35 hz)
    · exact ref_yes hop2 hfm (nb' hz) (parts_st _ s) (ref_store s w hs h35 (nb' hz))
  by_cases h15:pc s 0 7 = 15
  · have hop:opW s = opC 15 (pc s 12 3) (pc s 25 7) s:=by unfold opW;rw [h15]
    have hfm:fmW s = fmC 15 (pc s 12 3):=by unfold fmW;rw [h15]
    have hop2:opW s = ([85,86]:List Int).getD (pc s 12 3) 0:=hop.trans (eq_T10 _ hf)
    by_cases hz:([85,86]:List Int).getD (pc s 12 3) 0 = 0
    · exact ref_no (hop2.trans hz) (ref_fence_z s w hs h15 hz)
    · exact ref_yes hop2 hfm (nb' hz) (parts_ba _ s) (ref_fence s w hs h15 (nb' hz))
  by_cases h47:pc s 0 7 = 47
  · have hop:opW s = opC 47 (pc s 12 3) (pc s 25 7) s:=by unfold opW;rw [h47]
    have hfm:fmW s = fmC 47 (pc s 12 3):=by unfold fmW;rw [h47]
    have hop2:opW s = (opU (pc s 27 5) (pc s 12 3) (decide (((pc s 20 5:Nat):Int) ≠ 0)) 11):=hop.trans (opA_opU s)
    by_cases hz:(opU (pc s 27 5) (pc s 12 3) (decide (((pc s 20 5:Nat):Int) ≠ 0)) 11) = 0
    · exact ref_no (hop2.trans hz) (ref_atomic_z s w hs h47 hz)
    · exact ref_yes hop2 hfm (nb' hz) (parts_am _ s) (ref_atomic s w hs h47 (nb' hz))
  by_cases h115:pc s 0 7 = 115
  · have hop:opW s = opC 115 (pc s 12 3) (pc s 25 7) s:=by unfold opW;rw [h115]
    have hfm:fmW s = fmC 115 (pc s 12 3):=by unfold fmW;rw [h115]
    by_cases h1:s = 115
    · have hop2:opW s = 87:=hop.trans (if_pos h1)
      exact ref_yes hop2 hfm (by decide) rfl (ref_ecall s w hs h115 (by simp [h1]) (by simp [h1]))
    · by_cases h2:s = 1048691
      · have hop2:opW s = 88:=hop.trans ((if_neg h1).trans (if_pos h2))
        exact ref_yes hop2 hfm (by decide) rfl (ref_ebreak s w hs h115 (by simp [h2]) (by simp [h2]))
      · have hop2:opW s = 0:=hop.trans ((if_neg h1).trans (if_neg h2))
        exact ref_no hop2 (ref_system s w hs h115 (nb h1) (nb h2))
  by_cases h51:pc s 0 7 = 51
  · have hop:opW s = opC 51 (pc s 12 3) (pc s 25 7) s:=by unfold opW;rw [h51]
    have hfm:fmW s = fmC 51 (pc s 12 3):=by unfold fmW;rw [h51]
    by_cases h7_0:pc s 25 7 = 0
    · have hop2:opW s = ([31,33,34,35,36,37,39,40]:List Int).getD (pc s 12 3) 0:=hop.trans ((pick_a h7_0).trans rfl)
      exact ref_yes hop2 hfm (nz_T4 _ hf) (parts_rg _ s) (ref_plain_a s w hs h51 h7_0 (nz_T4 _ hf))
    by_cases h7_32:pc s 25 7 = 32
    · have hop2:opW s = ([32,0,0,0,0,38]:List Int).getD (pc s 12 3) 0:=hop.trans ((pick_b h7_32).trans (eq_T5 _ hf))
      by_cases hz:([32,0,0,0,0,38]:List Int).getD (pc s 12 3) 0 = 0
      · exact ref_no (hop2.trans hz) (ref_plain_b_z s w hs h51 h7_32 hz)
      · exact ref_yes hop2 hfm (nb' hz) (parts_rg _ s) (ref_plain_b s w hs h51 h7_32 (nb' hz))
    by_cases h7_1:pc s 25 7 = 1
    · have hop2:opW s = ([50,51,52,53,54,55,56,57]:List Int).getD (pc s 12 3) 0:=hop.trans ((pick_p h7_1).trans rfl)
      exact ref_yes hop2 hfm (nz_T6 _ hf) (parts_rg _ s) (ref_plain_p s w hs h51 h7_1 (nz_T6 _ hf))
    have hop2:opW s = 0:=hop.trans ((pick_c h7_0 h7_32 h7_1 hf).trans (z8 _ hf))
    exact ref_no hop2 (ref_plain_c s w hs h51 (nb h7_0) (nb h7_32) (nb h7_1))
  by_cases h59:pc s 0 7 = 59
  · have hop:opW s = opC 59 (pc s 12 3) (pc s 25 7) s:=by unfold opW;rw [h59]
    have hfm:fmW s = fmC 59 (pc s 12 3):=by unfold fmW;rw [h59]
    by_cases h7_0:pc s 25 7 = 0
    · have hop2:opW s = ([45,47,0,0,0,48]:List Int).getD (pc s 12 3) 0:=hop.trans ((pick_a h7_0).trans (eq_T7 _ hf))
      by_cases hz:([45,47,0,0,0,48]:List Int).getD (pc s 12 3) 0 = 0
      · exact ref_no (hop2.trans hz) (ref_narrow_a_z s w hs h59 h7_0 hz)
      · exact ref_yes hop2 hfm (nb' hz) (parts_rg _ s) (ref_narrow_a s w hs h59 h7_0 (nb' hz))
    by_cases h7_32:pc s 25 7 = 32
    · have hop2:opW s = ([46,0,0,0,0,49]:List Int).getD (pc s 12 3) 0:=hop.trans ((pick_b h7_32).trans (eq_T8 _ hf))
      by_cases hz:([46,0,0,0,0,49]:List Int).getD (pc s 12 3) 0 = 0
      · exact ref_no (hop2.trans hz) (ref_narrow_b_z s w hs h59 h7_32 hz)
      · exact ref_yes hop2 hfm (nb' hz) (parts_rg _ s) (ref_narrow_b s w hs h59 h7_32 (nb' hz))
    by_cases h7_1:pc s 25 7 = 1
    · have hop2:opW s = ([58,0,0,0,59,60,61,62]:List Int).getD (pc s 12 3) 0:=hop.trans ((pick_p h7_1).trans (eq_T9 _ hf))
      by_cases hz:([58,0,0,0,59,60,61,62]:List Int).getD (pc s 12 3) 0 = 0
      · exact ref_no (hop2.trans hz) (ref_narrow_p_z s w hs h59 h7_1 hz)
      · exact ref_yes hop2 hfm (nb' hz) (parts_rg _ s) (ref_narrow_p s w hs h59 h7_1 (nb' hz))
    have hop2:opW s = 0:=hop.trans ((pick_c h7_0 h7_32 h7_1 hf).trans (z8 _ hf))
    exact ref_no hop2 (ref_narrow_c s w hs h59 (nb h7_0) (nb h7_32) (nb h7_1))
  by_cases h19:pc s 0 7 = 19
  · have hop:opW s = opC 19 (pc s 12 3) (pc s 25 7) s:=by unfold opW;rw [h19]
    have hfm:fmW s = fmC 19 (pc s 12 3):=by unfold fmW;rw [h19]
    have hu:=up_half s
    by_cases h5:pc s 12 3 = 1 ∨ pc s 12 3 = 5
    · have hop1:opW s = pick3 (pc s 25 7 / 2 * 2) T12 T13 Z8 (pc s 12 3):=hop.trans (if_pos h5)
      have hfm1:fmW s = .sh 6:=hfm.trans (if_pos h5)
      by_cases ha:pc s 26 6 = 0
      · have e:opW s = T12.getD (pc s 12 3) 0:=hop1.trans (pick_a (by omega))
        rcases h5 with h | h
        · rw [h] at e
          exact ref_yes (o:=28) e hfm1 (by decide) (parts_sh _ s 6) (ref_imm19_0 s w hs h19 h ha)
        · rw [h] at e
          exact ref_yes (o:=29) e hfm1 (by decide) (parts_sh _ s 6) (ref_imm19_1 s w hs h19 h ha)
      · by_cases hb:pc s 26 6 = 16
        · have e:opW s = T13.getD (pc s 12 3) 0:=hop1.trans (pick_b (by omega))
          rcases h5 with h | h
          · rw [h] at e
            exact ref_no e (ref_imm19_3 s w hs h19 h (nb ha))
          · rw [h] at e
            exact ref_yes (o:=30) e hfm1 (by decide) (parts_sh _ s 6) (ref_imm19_2 s w hs h19 h hb)
        · have e:opW s = 0:=hop1.trans ((pick_c (by omega) (by omega) (by omega) hf).trans (z8 _ hf))
          rcases h5 with h | h
          · exact ref_no e (ref_imm19_3 s w hs h19 h (nb ha))
          · exact ref_no e (ref_imm19_4 s w hs h19 h (nb ha) (nb hb))
    · have hop1:opW s = T11.getD (pc s 12 3) 0:=hop.trans (if_neg h5)
      have hfm1:fmW s = .im:=hfm.trans (if_neg h5)
      have n1:pc s 12 3 ≠ 1:=fun h=>h5 (.inl h)
      have n5:pc s 12 3 ≠ 5:=fun h=>h5 (.inr h)
      exact ref_yes hop1 hfm1 (nz_T11 _ hf n1 n5) (parts_im _ s) (ref_imm19 s w hs h19 (nb n1) (nb n5) (nz_T11 _ hf n1 n5))
  by_cases h27:pc s 0 7 = 27
  · have hop:opW s = opC 27 (pc s 12 3) (pc s 25 7) s:=by unfold opW;rw [h27]
    have hfm:fmW s = fmC 27 (pc s 12 3):=by unfold fmW;rw [h27]
    by_cases h0:pc s 12 3 = 0
    · have hop1:opW s = 41:=hop.trans (if_pos h0)
      have hfm1:fmW s = .im:=hfm.trans (if_pos h0)
      have e:([41]:List Int).getD (pc s 12 3) 0 = 41:=by rw [h0];rfl
      have r:=ref_imm27 s w hs h27 (nb (a:=pc s 12 3) (b:=1) (by omega)) (nb (a:=pc s 12 3) (b:=5) (by omega)) (by rw [e];rfl)
      rw [e] at r
      exact ref_yes hop1 hfm1 (by decide) (parts_im _ s) r
    · have hop1:opW s = pick3 (pc s 25 7) T15 T16 Z8 (pc s 12 3):=hop.trans (if_neg h0)
      have hfm1:fmW s = .sh 5:=hfm.trans (if_neg h0)
      by_cases h5:pc s 12 3 = 1 ∨ pc s 12 3 = 5
      · by_cases ha:pc s 25 7 = 0
        · have e:opW s = T15.getD (pc s 12 3) 0:=hop1.trans (pick_a ha)
          rcases h5 with h | h
          · rw [h] at e
            exact ref_yes (o:=42) e hfm1 (by decide) (parts_sh _ s 5) (ref_imm27_0 s w hs h27 h ha)
          · rw [h] at e
            exact ref_yes (o:=43) e hfm1 (by decide) (parts_sh _ s 5) (ref_imm27_1 s w hs h27 h ha)
        · by_cases hb:pc s 25 7 = 32
          · have e:opW s = T16.getD (pc s 12 3) 0:=hop1.trans (pick_b hb)
            rcases h5 with h | h
            · rw [h] at e
              exact ref_no e (ref_imm27_3 s w hs h27 h (nb ha))
            · rw [h] at e
              exact ref_yes (o:=44) e hfm1 (by decide) (parts_sh _ s 5) (ref_imm27_2 s w hs h27 h hb)
          · have e:opW s = 0:=by
              by_cases hp:pc s 25 7 = 1
              · exact hop1.trans ((pick_p hp).trans (z8 _ hf))
              · exact hop1.trans ((pick_c ha hb hp hf).trans (z8 _ hf))
            rcases h5 with h | h
            · exact ref_no e (ref_imm27_3 s w hs h27 h (nb ha))
            · exact ref_no e (ref_imm27_4 s w hs h27 h (nb ha) (nb hb))
      · have n1:pc s 12 3 ≠ 1:=fun h=>h5 (.inl h)
        have n5:pc s 12 3 ≠ 5:=fun h=>h5 (.inr h)
        obtain ⟨z1,z2,z3⟩:=z_W _ hf h0 n1 n5
        have e:opW s = 0:=hop1.trans (pick_z _ _ _ _ _ z2 z3 (z8 _ hf))
        exact ref_no e (ref_imm27_z s w hs h27 (nb n1) (nb n5) z1)
  have hop:opW s = 0:=by unfold opW opC;rw [if_neg h55,if_neg h23,if_neg h111,if_neg h103,if_neg h99,if_neg h3,if_neg h35,if_neg h19,if_neg h51,if_neg h27,if_neg h59,if_neg h47,if_neg h15,if_neg h115]
  exact ref_no hop (ref_none s w hs (nb h55) (nb h23) (nb h111) (nb h103) (nb h3) (nb h99) (nb h35) (nb h19) (nb h27) (nb h51) (nb h59) (nb h47) (nb h15) (nb h115))
end Go.Proofs.YtbngjbmfkekdnaaGreatDoor.Tr
