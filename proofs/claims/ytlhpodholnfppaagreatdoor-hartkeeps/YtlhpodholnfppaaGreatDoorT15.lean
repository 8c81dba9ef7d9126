/-
  Contracts of the pieces of a short instruction.
-/
import Derived.Test.YtlhpodholnfppaaGreatDoorT13
import Derived.Test.YtlhpodholnfppaaGreatDoorT14
import Derived.Lib.Hide
set_option linter.unusedVariables false
set_option linter.unusedSimpArgs false
set_option maxHeartbeats 16000000
open Go.Lib (hid)
namespace Go.Proofs.YtlhpodholnfppaaGreatDoor.Td
open Go.RowKit

theorem or64 (a b:Nat) (ha:a < 9223372036854775808) (hb:b < 9223372036854775808):bits .or .i64 (a:Int) (b:Int) = ((a ||| b:Nat):Int):=by
  have hx:a ||| b < 2 ^ 63:=Nat.or_lt_two_pow (by omega) (by omega)
  show IntKind.i64.wrap ((BitVec.ofInt 64 (a:Int) ||| BitVec.ofInt 64 (b:Int)).toNat:Int) = _
  rw [BitVec.toNat_or,ofInt_u64 a (by omega),ofInt_u64 b (by omega)]
  exact IntWalk.i64_in _ (by omega)
theorem and64 (a b:Nat) (ha:a < 9223372036854775808) (hb:b < 9223372036854775808):bits .and .i64 (a:Int) (b:Int) = ((a &&& b:Nat):Int):=by
  have hx:a &&& b < 2 ^ 63:=Nat.and_lt_two_pow _ (by omega)
  show IntKind.i64.wrap ((BitVec.ofInt 64 (a:Int) &&& BitVec.ofInt 64 (b:Int)).toNat:Int) = _
  rw [BitVec.toNat_and,ofInt_u64 a (by omega),ofInt_u64 b (by omega)]
  exact IntWalk.i64_in _ (by omega)
theorem or_join (k a b c:Nat) (ha:a % 2 ^ k = 0) (hb:b < 2 ^ k) (hc:a + b = c) (hl:c < 65536):bits .or .i64 (a:Int) (b:Int) = (c:Int):=by
  rw [or64 a b (by omega) (by omega),nat_join k a b ha hb,hc]

theorem wi (t:Nat) (h:t < 9223372036854775808):wrap64 (t:Int) = (t:Int):=by unfold wrap64;omega
theorem wm (t:Nat) (h:0 < t) (h2:t ≤ 2 ^ 16):wrap64 (wrap64 (t:Int) - 1) = ((t - 1:Nat):Int):=by
  have h3:t ≤ 65536:=h2
  clear h2
  unfold wrap64;omega
theorem bits_any (s hi lo k:Nat) (w:World) (hs:s < 65536) (h1:lo ≤ hi) (h2:hi ≤ 15) (h3:k ≤ 12) :
    Calls Tryz.prog 190 #[.int .u16 s,.int .i64 hi,.int .i64 lo,.int .i64 k] w fun e w'=>e = .returned (.int .i64 ((pc s lo (hi + 1 - lo) * 2 ^ k:Nat):Int))∧∃ q,w' = w.drewN q:=by
  obtain ⟨m,hm⟩:∃ m:Nat,(hi:Int) = (lo:Int) + m - 1:=⟨hi + 1 - lo,by omega⟩
  obtain rfl:hi = lo + m - 1:=by omega
  have hm1:1 ≤ m:=by omega
  have h0:(0:Int) ≤ (lo:Int):=by omega
  have h4:(0:Int) ≤ (k:Int):=by omega
  have hm16:m ≤ 16:=by omega
  go_enter Tryz.func190,Tryz.ntmps190
  go_wp2_with fail
  go_quiet (fail)
  go_wp2
  go_ret
  refine ⟨ret_int ?_,_,rfl⟩
  rw [show lo + m - 1 + 1 - lo = m by omega,show lo + m - 1 - lo + 1 = m by omega]
  have hp:0 < 2 ^ m:=Nat.two_pow_pos m
  have hp2:2 ^ m ≤ 65536:=Nat.pow_le_pow_right (by decide) hm16
  have hk2:2 ^ k ≤ 4096:=Nat.pow_le_pow_right (by decide) h3
  have e0:(2:Int) ^ m = ((2 ^ m:Nat):Int):=by simp
  have ek:(2:Int) ^ k = ((2 ^ k:Nat):Int):=by simp
  have e2:(s:Int) / 2 ^ lo = ((s / 2 ^ lo:Nat):Int):=by simp
  have hd:s / 2 ^ lo < 65536:=Nat.lt_of_le_of_lt (Nat.div_le_self _ _) hs
  rw [e0,e2,ek]
  have w1:wrap64 ((s / 2 ^ lo:Nat):Int) = ((s / 2 ^ lo:Nat):Int):=wi _ (Nat.lt_trans hd (by decide))
  have w2:wrap64 (wrap64 ((2 ^ m:Nat):Int) - 1) = ((2 ^ m - 1:Nat):Int):=wm _ hp hp2
  have hl:=pc_lt s lo m
  rw [w1,w2,and64 _ _ (Nat.lt_trans hd (by decide)) (Nat.lt_of_le_of_lt (Nat.sub_le _ _) (Nat.lt_of_le_of_lt hp2 (by decide))),Nat.and_two_pow_sub_one_eq_mod]
  show wrap64 (((pc s lo m:Nat):Int) * ((2 ^ k:Nat):Int)) = _
  have hb:pc s lo m * 2 ^ k < 65536 * 4096:=Nat.mul_lt_mul_of_lt_of_le (Nat.lt_of_lt_of_le hl hp2) hk2 (by decide)
  rw [← Int.natCast_mul]
  exact wi _ (Nat.lt_trans hb (by decide))
theorem bits_is (s hi lo k v:Nat) (hs:s < 65536) (h1:lo ≤ hi) (h2:hi ≤ 15) (h3:k ≤ 12) (hv:pc s lo (hi + 1 - lo) * 2 ^ k = v) (w:World) :
    Calls Tryz.prog 190 #[.int .u16 s,.int .i64 hi,.int .i64 lo,.int .i64 k] w fun e w'=>e = .returned (.int .i64 (v:Int))∧∃ q,w' = w.drewN q:=by
  rw [← hv];exact bits_any s hi lo k w hs h1 h2 h3

theorem group_is (s v:Nat) (w:World) (hs:s < 65536) (hv:pc s 0 2 = v):Calls Tryz.prog 169 #[.int .u16 s] w fun e w'=>e = .returned (.int .i64 (v:Int))∧∃ q,w' = w.drewN q:=by
  have hb:=pc_lt s 0 2
  rw [hv] at hb
  have C:=hid (bits_is s 1 0 0 v hs (by decide) (by decide) (by decide) (by rw [← hv];simp))
  clear hv hs
  go_enter Tryz.func169,Tryz.ntmps169
  go_wp2_with fail
  refine (C.out _).mono ?_
  rintro e w1 ⟨rfl,q,rfl⟩
  go_wp2
  go_ret
  exact ⟨rfl,_,rfl⟩

theorem kind_is (s v:Nat) (w:World) (hs:s < 65536) (hv:pc s 13 3 = v):Calls Tryz.prog 191 #[.int .u16 s] w fun e w'=>e = .returned (.int .i64 (v:Int))∧∃ q,w' = w.drewN q:=by
  have hb:=pc_lt s 13 3
  rw [hv] at hb
  have C:=hid (bits_is s 15 13 0 v hs (by decide) (by decide) (by decide) (by rw [← hv];simp))
  clear hv hs
  go_enter Tryz.func191,Tryz.ntmps191
  go_wp2_with fail
  refine (C.out _).mono ?_
  rintro e w1 ⟨rfl,q,rfl⟩
  go_wp2
  go_ret
  exact ⟨rfl,_,rfl⟩

theorem rd_is (s v:Nat) (w:World) (hs:s < 65536) (hv:pc s 7 5 = v):Calls Tryz.prog 222 #[.int .u16 s] w fun e w'=>e = .returned (.int .i64 (v:Int))∧∃ q,w' = w.drewN q:=by
  have hb:=pc_lt s 7 5
  rw [hv] at hb
  have C:=hid (bits_is s 11 7 0 v hs (by decide) (by decide) (by decide) (by rw [← hv];simp))
  clear hv hs
  go_enter Tryz.func222,Tryz.ntmps222
  go_wp2_with fail
  refine (C.out _).mono ?_
  rintro e w1 ⟨rfl,q,rfl⟩
  go_wp2
  go_ret
  exact ⟨rfl,_,rfl⟩

theorem rs2_is (s v:Nat) (w:World) (hs:s < 65536) (hv:pc s 2 5 = v):Calls Tryz.prog 230 #[.int .u16 s] w fun e w'=>e = .returned (.int .i64 (v:Int))∧∃ q,w' = w.drewN q:=by
  have hb:=pc_lt s 2 5
  rw [hv] at hb
  have C:=hid (bits_is s 6 2 0 v hs (by decide) (by decide) (by decide) (by rw [← hv];simp))
  clear hv hs
  go_enter Tryz.func230,Tryz.ntmps230
  go_wp2_with fail
  refine (C.out _).mono ?_
  rintro e w1 ⟨rfl,q,rfl⟩
  go_wp2
  go_ret
  exact ⟨rfl,_,rfl⟩

theorem smallRd_is (s v:Nat) (w:World) (hs:s < 65536) (hv:pc s 2 3 = v):Calls Tryz.prog 217 #[.int .u16 s] w fun e w'=>e = .returned (.int .i64 ((v:Nat) + 8:Int))∧∃ q,w' = w.drewN q:=by
  have hb:=pc_lt s 2 3
  rw [hv] at hb
  have C:=hid (bits_is s 4 2 0 v hs (by decide) (by decide) (by decide) (by rw [← hv];simp))
  clear hv hs
  go_enter Tryz.func217,Tryz.ntmps217
  go_wp2_with fail
  refine (C.out _).mono ?_
  rintro e w1 ⟨rfl,q,rfl⟩
  go_wp2
  go_ret
  exact ⟨rfl,_,rfl⟩

theorem smallRs1_is (s v:Nat) (w:World) (hs:s < 65536) (hv:pc s 7 3 = v):Calls Tryz.prog 219 #[.int .u16 s] w fun e w'=>e = .returned (.int .i64 ((v:Nat) + 8:Int))∧∃ q,w' = w.drewN q:=by
  have hb:=pc_lt s 7 3
  rw [hv] at hb
  have C:=hid (bits_is s 9 7 0 v hs (by decide) (by decide) (by decide) (by rw [← hv];simp))
  clear hv hs
  go_enter Tryz.func219,Tryz.ntmps219
  go_wp2_with fail
  refine (C.out _).mono ?_
  rintro e w1 ⟨rfl,q,rfl⟩
  go_wp2
  go_ret
  exact ⟨rfl,_,rfl⟩

theorem smallRs2_is (s v:Nat) (w:World) (hs:s < 65536) (hv:pc s 2 3 = v):Calls Tryz.prog 220 #[.int .u16 s] w fun e w'=>e = .returned (.int .i64 ((v:Nat) + 8:Int))∧∃ q,w' = w.drewN q:=by
  have C:=hid (fun w=>smallRd_is s v w hs hv)
  clear hv hs
  go_enter Tryz.func220,Tryz.ntmps220
  go_wp2_with fail
  refine (C.out _).mono ?_
  rintro e w1 ⟨rfl,q,rfl⟩
  go_wp2
  go_ret
  exact ⟨rfl,_,rfl⟩

theorem stores_yes (s:Nat) (w:World) (hs:s < 65536) (hv:pc s 15 1 = 1):Calls Tryz.prog 218 #[.int .u16 s] w fun e w'=>e = .returned (.bool true)∧∃ q,w' = w.drewN q:=by
  have C:=hid (bits_is s 15 15 0 1 hs (by decide) (by decide) (by decide) (by show pc s 15 1 * 2 ^ 0 = 1;rw [hv]))
  clear hv hs
  go_enter Tryz.func218,Tryz.ntmps218
  go_wp2_with fail
  refine (C.out _).mono ?_
  rintro e w1 ⟨rfl,q,rfl⟩
  go_wp2
  go_ret
  exact ⟨rfl,_,rfl⟩

theorem stores_no (s:Nat) (w:World) (hs:s < 65536) (hv:pc s 15 1 = 0):Calls Tryz.prog 218 #[.int .u16 s] w fun e w'=>e = .returned (.bool false)∧∃ q,w' = w.drewN q:=by
  have C:=hid (bits_is s 15 15 0 0 hs (by decide) (by decide) (by decide) (by show pc s 15 1 * 2 ^ 0 = 0;rw [hv]))
  clear hv hs
  go_enter Tryz.func218,Tryz.ntmps218
  go_wp2_with fail
  refine (C.out _).mono ?_
  rintro e w1 ⟨rfl,q,rfl⟩
  go_wp2
  go_ret
  exact ⟨rfl,_,rfl⟩

theorem double_yes (s:Nat) (w:World) (hs:s < 65536) (hv:pc s 13 1 = 1):Calls Tryz.prog 235 #[.int .u16 s] w fun e w'=>e = .returned (.bool true)∧∃ q,w' = w.drewN q:=by
  have C:=hid (bits_is s 13 13 0 1 hs (by decide) (by decide) (by decide) (by show pc s 13 1 * 2 ^ 0 = 1;rw [hv]))
  clear hv hs
  go_enter Tryz.func235,Tryz.ntmps235
  go_wp2_with fail
  refine (C.out _).mono ?_
  rintro e w1 ⟨rfl,q,rfl⟩
  go_wp2
  go_ret
  exact ⟨rfl,_,rfl⟩

theorem double_no (s:Nat) (w:World) (hs:s < 65536) (hv:pc s 13 1 = 0):Calls Tryz.prog 235 #[.int .u16 s] w fun e w'=>e = .returned (.bool false)∧∃ q,w' = w.drewN q:=by
  have C:=hid (bits_is s 13 13 0 0 hs (by decide) (by decide) (by decide) (by show pc s 13 1 * 2 ^ 0 = 0;rw [hv]))
  clear hv hs
  go_enter Tryz.func235,Tryz.ntmps235
  go_wp2_with fail
  refine (C.out _).mono ?_
  rintro e w1 ⟨rfl,q,rfl⟩
  go_wp2
  go_ret
  exact ⟨rfl,_,rfl⟩

theorem csigned_any (n:Int) (b:Nat) (w:World) (h1:(1:Int) ≤ b) (h2:(b:Int) ≤ 64) :
    Calls Tryz.prog 236 #[.int .i64 n,.int .i64 b] w fun e w'=>e = .returned (.int .i64 (low n b))∧w = w':=by
  go_enter Tryz.func236,Tryz.ntmps236
  go_wp2_with fail
  refine (sext_in _ b _ h1 h2).mono ?_
  rintro e w' ⟨rfl,rfl⟩
  go_wp2
  go_ret
  exact ⟨ret_int (sx_back n b (by omega) (by omega)),rfl⟩

def shiftN (s:Nat):Nat:=pc s 12 1 * 32 + pc s 2 5 * 1
def reckN (s:Nat):Nat:=pc s 12 1 * 4 + pc s 5 2 * 1
def frameN (s:Nat):Nat:=pc s 7 4 * 64 + pc s 11 2 * 16 + pc s 5 1 * 8 + pc s 6 1 * 4
def stackN (s:Nat):Nat:=pc s 12 1 * 512 + pc s 3 2 * 128 + pc s 5 1 * 64 + pc s 2 1 * 32 + pc s 6 1 * 16
def jumpN (s:Nat):Nat:=pc s 12 1 * 2048 + pc s 8 1 * 1024 + pc s 9 2 * 256 + pc s 6 1 * 128 + pc s 7 1 * 64 + pc s 2 1 * 32 + pc s 11 1 * 16 + pc s 3 3 * 2
def branchN (s:Nat):Nat:=pc s 12 1 * 256 + pc s 5 2 * 64 + pc s 2 1 * 32 + pc s 10 2 * 8 + pc s 3 2 * 2
def wordsN (s:Nat):Nat:=pc s 5 1 * 64 + pc s 10 3 * 8 + pc s 6 1 * 4
def doublesN (s:Nat):Nat:=pc s 5 2 * 64 + pc s 10 3 * 8
def loadW (s:Nat):Nat:=pc s 2 2 * 64 + pc s 12 1 * 32 + pc s 4 3 * 4
def loadD (s:Nat):Nat:=pc s 2 3 * 64 + pc s 12 1 * 32 + pc s 5 2 * 8
def storeW (s:Nat):Nat:=pc s 7 2 * 64 + pc s 9 4 * 4
def storeD (s:Nat):Nat:=pc s 7 3 * 64 + pc s 10 3 * 8
theorem shiftC_any (s:Nat) (w:World) (hs:s < 65536):Calls Tryz.prog 228 #[.int .u16 s] w fun e w'=>e = .returned (.int .i64 ((shiftN s:Nat):Int))∧∃ q,w' = w.drewN q:=by
  obtain ⟨v1,e1⟩:∃ v,pc s 12 1 * 32 = v:=⟨_,rfl⟩
  have b1:=pc_lt s 12 1
  have C1:=hid (bits_is s 12 12 5 v1 hs (by decide) (by decide) (by decide) e1)
  obtain ⟨v2,e2⟩:∃ v,pc s 2 5 * 1 = v:=⟨_,rfl⟩
  have b2:=pc_lt s 2 5
  have C2:=hid (bits_is s 6 2 0 v2 hs (by decide) (by decide) (by decide) e2)
  obtain ⟨x2,fx2⟩:∃ v,v1 + v2 = v:=⟨_,rfl⟩
  have Ox2:=hid (or_join 5 v1 v2 x2 (by simp only [Nat.reducePow] at *;omega) (by simp only [Nat.reducePow] at *;omega) fx2 (by simp only [Nat.reducePow] at *;omega))
  have E:shiftN s = x2:=by
    unfold shiftN
    rw [e1,e2]
    clear e1 b1 C1 e2 b2 C2 Ox2
    omega
  rw [E]
  clear E hs e1 b1 e2 b2 fx2
  go_enter Tryz.func228,Tryz.ntmps228
  go_wp2_with fail
  refine (C1.out _).mono ?_
  rintro e w1 ⟨rfl,q1,rfl⟩
  go_wp2_with fail
  refine (C2.out _).mono ?_
  rintro e w2 ⟨rfl,q2,rfl⟩
  go_wp2
  go_ret
  exact ⟨ret_int (by rw [Ox2.out]),_,rfl⟩

theorem reckoner_any (s:Nat) (w:World) (hs:s < 65536):Calls Tryz.prog 239 #[.int .u16 s] w fun e w'=>e = .returned (.int .i64 ((reckN s:Nat):Int))∧∃ q,w' = w.drewN q:=by
  obtain ⟨v1,e1⟩:∃ v,pc s 12 1 * 4 = v:=⟨_,rfl⟩
  have b1:=pc_lt s 12 1
  have C1:=hid (bits_is s 12 12 2 v1 hs (by decide) (by decide) (by decide) e1)
  obtain ⟨v2,e2⟩:∃ v,pc s 5 2 * 1 = v:=⟨_,rfl⟩
  have b2:=pc_lt s 5 2
  have C2:=hid (bits_is s 6 5 0 v2 hs (by decide) (by decide) (by decide) e2)
  obtain ⟨x2,fx2⟩:∃ v,v1 + v2 = v:=⟨_,rfl⟩
  have Ox2:=hid (or_join 2 v1 v2 x2 (by simp only [Nat.reducePow] at *;omega) (by simp only [Nat.reducePow] at *;omega) fx2 (by simp only [Nat.reducePow] at *;omega))
  have E:reckN s = x2:=by
    unfold reckN
    rw [e1,e2]
    clear e1 b1 C1 e2 b2 C2 Ox2
    omega
  rw [E]
  clear E hs e1 b1 e2 b2 fx2
  go_enter Tryz.func239,Tryz.ntmps239
  go_wp2_with fail
  refine (C1.out _).mono ?_
  rintro e w1 ⟨rfl,q1,rfl⟩
  go_wp2_with fail
  refine (C2.out _).mono ?_
  rintro e w2 ⟨rfl,q2,rfl⟩
  go_wp2
  go_ret
  exact ⟨ret_int (by rw [Ox2.out]),_,rfl⟩

theorem frame_any (s:Nat) (w:World) (hs:s < 65536):Calls Tryz.prog 216 #[.int .u16 s] w fun e w'=>e = .returned (.int .i64 ((frameN s:Nat):Int))∧∃ q,w' = w.drewN q:=by
  obtain ⟨v1,e1⟩:∃ v,pc s 7 4 * 64 = v:=⟨_,rfl⟩
  have b1:=pc_lt s 7 4
  have C1:=hid (bits_is s 10 7 6 v1 hs (by decide) (by decide) (by decide) e1)
  obtain ⟨v2,e2⟩:∃ v,pc s 11 2 * 16 = v:=⟨_,rfl⟩
  have b2:=pc_lt s 11 2
  have C2:=hid (bits_is s 12 11 4 v2 hs (by decide) (by decide) (by decide) e2)
  obtain ⟨v3,e3⟩:∃ v,pc s 5 1 * 8 = v:=⟨_,rfl⟩
  have b3:=pc_lt s 5 1
  have C3:=hid (bits_is s 5 5 3 v3 hs (by decide) (by decide) (by decide) e3)
  obtain ⟨v4,e4⟩:∃ v,pc s 6 1 * 4 = v:=⟨_,rfl⟩
  have b4:=pc_lt s 6 1
  have C4:=hid (bits_is s 6 6 2 v4 hs (by decide) (by decide) (by decide) e4)
  obtain ⟨x2,fx2⟩:∃ v,v1 + v2 = v:=⟨_,rfl⟩
  have Ox2:=hid (or_join 6 v1 v2 x2 (by simp only [Nat.reducePow] at *;omega) (by simp only [Nat.reducePow] at *;omega) fx2 (by simp only [Nat.reducePow] at *;omega))
  obtain ⟨x3,fx3⟩:∃ v,x2 + v3 = v:=⟨_,rfl⟩
  have Ox3:=hid (or_join 4 x2 v3 x3 (by simp only [Nat.reducePow] at *;omega) (by simp only [Nat.reducePow] at *;omega) fx3 (by simp only [Nat.reducePow] at *;omega))
  obtain ⟨x4,fx4⟩:∃ v,x3 + v4 = v:=⟨_,rfl⟩
  have Ox4:=hid (or_join 3 x3 v4 x4 (by simp only [Nat.reducePow] at *;omega) (by simp only [Nat.reducePow] at *;omega) fx4 (by simp only [Nat.reducePow] at *;omega))
  have E:frameN s = x4:=by
    unfold frameN
    rw [e1,e2,e3,e4]
    clear e1 b1 C1 e2 b2 C2 e3 b3 C3 e4 b4 C4 Ox2 Ox3 Ox4
    omega
  rw [E]
  clear E hs e1 b1 e2 b2 e3 b3 e4 b4 fx2 fx3 fx4
  go_enter Tryz.func216,Tryz.ntmps216
  go_wp2_with fail
  refine (C1.out _).mono ?_
  rintro e w1 ⟨rfl,q1,rfl⟩
  go_wp2_with fail
  refine (C2.out _).mono ?_
  rintro e w2 ⟨rfl,q2,rfl⟩
  go_wp2_with fail
  refine (C3.out _).mono ?_
  rintro e w3 ⟨rfl,q3,rfl⟩
  go_wp2_with fail
  refine (C4.out _).mono ?_
  rintro e w4 ⟨rfl,q4,rfl⟩
  go_wp2
  go_ret
  exact ⟨ret_int (by rw [Ox2.out,Ox3.out,Ox4.out]),_,rfl⟩

theorem stackMove_any (s:Nat) (w:World) (hs:s < 65536):Calls Tryz.prog 237 #[.int .u16 s] w fun e w'=>e = .returned (.int .i64 (low (stackN s:Nat) 10:Int))∧∃ q,w' = w.drewN q:=by
  obtain ⟨v1,e1⟩:∃ v,pc s 12 1 * 512 = v:=⟨_,rfl⟩
  have b1:=pc_lt s 12 1
  have C1:=hid (bits_is s 12 12 9 v1 hs (by decide) (by decide) (by decide) e1)
  obtain ⟨v2,e2⟩:∃ v,pc s 3 2 * 128 = v:=⟨_,rfl⟩
  have b2:=pc_lt s 3 2
  have C2:=hid (bits_is s 4 3 7 v2 hs (by decide) (by decide) (by decide) e2)
  obtain ⟨v3,e3⟩:∃ v,pc s 5 1 * 64 = v:=⟨_,rfl⟩
  have b3:=pc_lt s 5 1
  have C3:=hid (bits_is s 5 5 6 v3 hs (by decide) (by decide) (by decide) e3)
  obtain ⟨v4,e4⟩:∃ v,pc s 2 1 * 32 = v:=⟨_,rfl⟩
  have b4:=pc_lt s 2 1
  have C4:=hid (bits_is s 2 2 5 v4 hs (by decide) (by decide) (by decide) e4)
  obtain ⟨v5,e5⟩:∃ v,pc s 6 1 * 16 = v:=⟨_,rfl⟩
  have b5:=pc_lt s 6 1
  have C5:=hid (bits_is s 6 6 4 v5 hs (by decide) (by decide) (by decide) e5)
  obtain ⟨x2,fx2⟩:∃ v,v1 + v2 = v:=⟨_,rfl⟩
  have Ox2:=hid (or_join 9 v1 v2 x2 (by simp only [Nat.reducePow] at *;omega) (by simp only [Nat.reducePow] at *;omega) fx2 (by simp only [Nat.reducePow] at *;omega))
  obtain ⟨x3,fx3⟩:∃ v,x2 + v3 = v:=⟨_,rfl⟩
  have Ox3:=hid (or_join 7 x2 v3 x3 (by simp only [Nat.reducePow] at *;omega) (by simp only [Nat.reducePow] at *;omega) fx3 (by simp only [Nat.reducePow] at *;omega))
  obtain ⟨x4,fx4⟩:∃ v,x3 + v4 = v:=⟨_,rfl⟩
  have Ox4:=hid (or_join 6 x3 v4 x4 (by simp only [Nat.reducePow] at *;omega) (by simp only [Nat.reducePow] at *;omega) fx4 (by simp only [Nat.reducePow] at *;omega))
  obtain ⟨x5,fx5⟩:∃ v,x4 + v5 = v:=⟨_,rfl⟩
  have Ox5:=hid (or_join 5 x4 v5 x5 (by simp only [Nat.reducePow] at *;omega) (by simp only [Nat.reducePow] at *;omega) fx5 (by simp only [Nat.reducePow] at *;omega))
  have E:stackN s = x5:=by
    unfold stackN
    rw [e1,e2,e3,e4,e5]
    clear e1 b1 C1 e2 b2 C2 e3 b3 C3 e4 b4 C4 e5 b5 C5 Ox2 Ox3 Ox4 Ox5
    omega
  rw [E]
  obtain ⟨d,ed⟩:∃ d,low (x5:Int) 10 = d:=⟨_,rfl⟩
  have CS:=hid (fun w=>csigned_any (x5:Int) 10 w (by decide) (by decide))
  rw [ed] at CS ⊢
  clear ed
  clear E hs e1 b1 e2 b2 e3 b3 e4 b4 e5 b5 fx2 fx3 fx4 fx5
  go_enter Tryz.func237,Tryz.ntmps237
  go_wp2_with fail
  refine (C1.out _).mono ?_
  rintro e w1 ⟨rfl,q1,rfl⟩
  go_wp2_with fail
  refine (C2.out _).mono ?_
  rintro e w2 ⟨rfl,q2,rfl⟩
  go_wp2_with fail
  refine (C3.out _).mono ?_
  rintro e w3 ⟨rfl,q3,rfl⟩
  go_wp2_with fail
  refine (C4.out _).mono ?_
  rintro e w4 ⟨rfl,q4,rfl⟩
  go_wp2_with fail
  refine (C5.out _).mono ?_
  rintro e w5 ⟨rfl,q5,rfl⟩
  go_wp2_with fail
  rw [Ox2.out,Ox3.out,Ox4.out,Ox5.out]
  refine (CS.out _).mono ?_
  rintro e wz ⟨rfl,rfl⟩
  go_wp2
  go_ret
  exact ⟨rfl,_,rfl⟩

theorem jump_any (s:Nat) (w:World) (hs:s < 65536):Calls Tryz.prog 226 #[.int .u16 s] w fun e w'=>e = .returned (.int .i64 (low (jumpN s:Nat) 12:Int))∧∃ q,w' = w.drewN q:=by
  obtain ⟨v1,e1⟩:∃ v,pc s 12 1 * 2048 = v:=⟨_,rfl⟩
  have b1:=pc_lt s 12 1
  have C1:=hid (bits_is s 12 12 11 v1 hs (by decide) (by decide) (by decide) e1)
  obtain ⟨v2,e2⟩:∃ v,pc s 8 1 * 1024 = v:=⟨_,rfl⟩
  have b2:=pc_lt s 8 1
  have C2:=hid (bits_is s 8 8 10 v2 hs (by decide) (by decide) (by decide) e2)
  obtain ⟨v3,e3⟩:∃ v,pc s 9 2 * 256 = v:=⟨_,rfl⟩
  have b3:=pc_lt s 9 2
  have C3:=hid (bits_is s 10 9 8 v3 hs (by decide) (by decide) (by decide) e3)
  obtain ⟨v4,e4⟩:∃ v,pc s 6 1 * 128 = v:=⟨_,rfl⟩
  have b4:=pc_lt s 6 1
  have C4:=hid (bits_is s 6 6 7 v4 hs (by decide) (by decide) (by decide) e4)
  obtain ⟨v5,e5⟩:∃ v,pc s 7 1 * 64 = v:=⟨_,rfl⟩
  have b5:=pc_lt s 7 1
  have C5:=hid (bits_is s 7 7 6 v5 hs (by decide) (by decide) (by decide) e5)
  obtain ⟨v6,e6⟩:∃ v,pc s 2 1 * 32 = v:=⟨_,rfl⟩
  have b6:=pc_lt s 2 1
  have C6:=hid (bits_is s 2 2 5 v6 hs (by decide) (by decide) (by decide) e6)
  obtain ⟨v7,e7⟩:∃ v,pc s 11 1 * 16 = v:=⟨_,rfl⟩
  have b7:=pc_lt s 11 1
  have C7:=hid (bits_is s 11 11 4 v7 hs (by decide) (by decide) (by decide) e7)
  obtain ⟨v8,e8⟩:∃ v,pc s 3 3 * 2 = v:=⟨_,rfl⟩
  have b8:=pc_lt s 3 3
  have C8:=hid (bits_is s 5 3 1 v8 hs (by decide) (by decide) (by decide) e8)
  obtain ⟨x2,fx2⟩:∃ v,v1 + v2 = v:=⟨_,rfl⟩
  have Ox2:=hid (or_join 11 v1 v2 x2 (by simp only [Nat.reducePow] at *;omega) (by simp only [Nat.reducePow] at *;omega) fx2 (by simp only [Nat.reducePow] at *;omega))
  obtain ⟨x3,fx3⟩:∃ v,x2 + v3 = v:=⟨_,rfl⟩
  have Ox3:=hid (or_join 10 x2 v3 x3 (by simp only [Nat.reducePow] at *;omega) (by simp only [Nat.reducePow] at *;omega) fx3 (by simp only [Nat.reducePow] at *;omega))
  obtain ⟨x4,fx4⟩:∃ v,x3 + v4 = v:=⟨_,rfl⟩
  have Ox4:=hid (or_join 8 x3 v4 x4 (by simp only [Nat.reducePow] at *;omega) (by simp only [Nat.reducePow] at *;omega) fx4 (by simp only [Nat.reducePow] at *;omega))
  obtain ⟨y2,fy2⟩:∃ v,v5 + v6 = v:=⟨_,rfl⟩
  have Oy2:=hid (or_join 6 v5 v6 y2 (by simp only [Nat.reducePow] at *;omega) (by simp only [Nat.reducePow] at *;omega) fy2 (by simp only [Nat.reducePow] at *;omega))
  obtain ⟨y3,fy3⟩:∃ v,y2 + v7 = v:=⟨_,rfl⟩
  have Oy3:=hid (or_join 5 y2 v7 y3 (by simp only [Nat.reducePow] at *;omega) (by simp only [Nat.reducePow] at *;omega) fy3 (by simp only [Nat.reducePow] at *;omega))
  obtain ⟨y4,fy4⟩:∃ v,y3 + v8 = v:=⟨_,rfl⟩
  have Oy4:=hid (or_join 4 y3 v8 y4 (by simp only [Nat.reducePow] at *;omega) (by simp only [Nat.reducePow] at *;omega) fy4 (by simp only [Nat.reducePow] at *;omega))
  obtain ⟨z,fz⟩:∃ v,x4 + y4 = v:=⟨_,rfl⟩
  have Oz:=hid (or_join 7 x4 y4 z (by simp only [Nat.reducePow] at *;omega) (by simp only [Nat.reducePow] at *;omega) fz (by simp only [Nat.reducePow] at *;omega))
  have E:jumpN s = z:=by
    unfold jumpN
    rw [e1,e2,e3,e4,e5,e6,e7,e8]
    clear e1 b1 C1 e2 b2 C2 e3 b3 C3 e4 b4 C4 e5 b5 C5 e6 b6 C6 e7 b7 C7 e8 b8 C8 Ox2 Ox3 Ox4 Oy2 Oy3 Oy4 Oz
    omega
  rw [E]
  obtain ⟨d,ed⟩:∃ d,low (z:Int) 12 = d:=⟨_,rfl⟩
  have CS:=hid (fun w=>csigned_any (z:Int) 12 w (by decide) (by decide))
  rw [ed] at CS ⊢
  clear ed
  clear E hs e1 b1 e2 b2 e3 b3 e4 b4 e5 b5 e6 b6 e7 b7 e8 b8 fx2 fx3 fx4 fy2 fy3 fy4 fz
  go_enter Tryz.func226,Tryz.ntmps226
  go_wp2_with fail
  refine (C1.out _).mono ?_
  rintro e w1 ⟨rfl,q1,rfl⟩
  go_wp2_with fail
  refine (C2.out _).mono ?_
  rintro e w2 ⟨rfl,q2,rfl⟩
  go_wp2_with fail
  refine (C3.out _).mono ?_
  rintro e w3 ⟨rfl,q3,rfl⟩
  go_wp2_with fail
  refine (C4.out _).mono ?_
  rintro e w4 ⟨rfl,q4,rfl⟩
  go_wp2_with fail
  refine (C5.out _).mono ?_
  rintro e w5 ⟨rfl,q5,rfl⟩
  go_wp2_with fail
  refine (C6.out _).mono ?_
  rintro e w6 ⟨rfl,q6,rfl⟩
  go_wp2_with fail
  refine (C7.out _).mono ?_
  rintro e w7 ⟨rfl,q7,rfl⟩
  go_wp2_with fail
  refine (C8.out _).mono ?_
  rintro e w8 ⟨rfl,q8,rfl⟩
  go_wp2_with fail
  rw [Ox2.out,Ox3.out,Ox4.out,Oy2.out,Oy3.out,Oy4.out,Oz.out]
  refine (CS.out _).mono ?_
  rintro e wz ⟨rfl,rfl⟩
  go_wp2
  go_ret
  exact ⟨rfl,_,rfl⟩

theorem branch_any (s:Nat) (w:World) (hs:s < 65536):Calls Tryz.prog 227 #[.int .u16 s] w fun e w'=>e = .returned (.int .i64 (low (branchN s:Nat) 9:Int))∧∃ q,w' = w.drewN q:=by
  obtain ⟨v1,e1⟩:∃ v,pc s 12 1 * 256 = v:=⟨_,rfl⟩
  have b1:=pc_lt s 12 1
  have C1:=hid (bits_is s 12 12 8 v1 hs (by decide) (by decide) (by decide) e1)
  obtain ⟨v2,e2⟩:∃ v,pc s 5 2 * 64 = v:=⟨_,rfl⟩
  have b2:=pc_lt s 5 2
  have C2:=hid (bits_is s 6 5 6 v2 hs (by decide) (by decide) (by decide) e2)
  obtain ⟨v3,e3⟩:∃ v,pc s 2 1 * 32 = v:=⟨_,rfl⟩
  have b3:=pc_lt s 2 1
  have C3:=hid (bits_is s 2 2 5 v3 hs (by decide) (by decide) (by decide) e3)
  obtain ⟨v4,e4⟩:∃ v,pc s 10 2 * 8 = v:=⟨_,rfl⟩
  have b4:=pc_lt s 10 2
  have C4:=hid (bits_is s 11 10 3 v4 hs (by decide) (by decide) (by decide) e4)
  obtain ⟨v5,e5⟩:∃ v,pc s 3 2 * 2 = v:=⟨_,rfl⟩
  have b5:=pc_lt s 3 2
  have C5:=hid (bits_is s 4 3 1 v5 hs (by decide) (by decide) (by decide) e5)
  obtain ⟨x2,fx2⟩:∃ v,v1 + v2 = v:=⟨_,rfl⟩
  have Ox2:=hid (or_join 8 v1 v2 x2 (by simp only [Nat.reducePow] at *;omega) (by simp only [Nat.reducePow] at *;omega) fx2 (by simp only [Nat.reducePow] at *;omega))
  obtain ⟨x3,fx3⟩:∃ v,x2 + v3 = v:=⟨_,rfl⟩
  have Ox3:=hid (or_join 6 x2 v3 x3 (by simp only [Nat.reducePow] at *;omega) (by simp only [Nat.reducePow] at *;omega) fx3 (by simp only [Nat.reducePow] at *;omega))
  obtain ⟨x4,fx4⟩:∃ v,x3 + v4 = v:=⟨_,rfl⟩
  have Ox4:=hid (or_join 5 x3 v4 x4 (by simp only [Nat.reducePow] at *;omega) (by simp only [Nat.reducePow] at *;omega) fx4 (by simp only [Nat.reducePow] at *;omega))
  obtain ⟨x5,fx5⟩:∃ v,x4 + v5 = v:=⟨_,rfl⟩
  have Ox5:=hid (or_join 3 x4 v5 x5 (by simp only [Nat.reducePow] at *;omega) (by simp only [Nat.reducePow] at *;omega) fx5 (by simp only [Nat.reducePow] at *;omega))
  have E:branchN s = x5:=by
    unfold branchN
    rw [e1,e2,e3,e4,e5]
    clear e1 b1 C1 e2 b2 C2 e3 b3 C3 e4 b4 C4 e5 b5 C5 Ox2 Ox3 Ox4 Ox5
    omega
  rw [E]
  obtain ⟨d,ed⟩:∃ d,low (x5:Int) 9 = d:=⟨_,rfl⟩
  have CS:=hid (fun w=>csigned_any (x5:Int) 9 w (by decide) (by decide))
  rw [ed] at CS ⊢
  clear ed
  clear E hs e1 b1 e2 b2 e3 b3 e4 b4 e5 b5 fx2 fx3 fx4 fx5
  go_enter Tryz.func227,Tryz.ntmps227
  go_wp2_with fail
  refine (C1.out _).mono ?_
  rintro e w1 ⟨rfl,q1,rfl⟩
  go_wp2_with fail
  refine (C2.out _).mono ?_
  rintro e w2 ⟨rfl,q2,rfl⟩
  go_wp2_with fail
  refine (C3.out _).mono ?_
  rintro e w3 ⟨rfl,q3,rfl⟩
  go_wp2_with fail
  refine (C4.out _).mono ?_
  rintro e w4 ⟨rfl,q4,rfl⟩
  go_wp2_with fail
  refine (C5.out _).mono ?_
  rintro e w5 ⟨rfl,q5,rfl⟩
  go_wp2_with fail
  rw [Ox2.out,Ox3.out,Ox4.out,Ox5.out]
  refine (CS.out _).mono ?_
  rintro e wz ⟨rfl,rfl⟩
  go_wp2
  go_ret
  exact ⟨rfl,_,rfl⟩

theorem offset_w (s:Nat) (w:World) (hs:s < 65536) (hd:pc s 13 1 = 0):Calls Tryz.prog 221 #[.int .u16 s] w fun e w'=>e = .returned (.int .i64 ((wordsN s:Nat):Int))∧∃ q,w' = w.drewN q:=by
  have C0:=hid (fun w=>double_no s w hs hd)
  clear hd
  obtain ⟨v1,e1⟩:∃ v,pc s 5 1 * 64 = v:=⟨_,rfl⟩
  have b1:=pc_lt s 5 1
  have C1:=hid (bits_is s 5 5 6 v1 hs (by decide) (by decide) (by decide) e1)
  obtain ⟨v2,e2⟩:∃ v,pc s 10 3 * 8 = v:=⟨_,rfl⟩
  have b2:=pc_lt s 10 3
  have C2:=hid (bits_is s 12 10 3 v2 hs (by decide) (by decide) (by decide) e2)
  obtain ⟨v3,e3⟩:∃ v,pc s 6 1 * 4 = v:=⟨_,rfl⟩
  have b3:=pc_lt s 6 1
  have C3:=hid (bits_is s 6 6 2 v3 hs (by decide) (by decide) (by decide) e3)
  obtain ⟨x2,fx2⟩:∃ v,v1 + v2 = v:=⟨_,rfl⟩
  have Ox2:=hid (or_join 6 v1 v2 x2 (by simp only [Nat.reducePow] at *;omega) (by simp only [Nat.reducePow] at *;omega) fx2 (by simp only [Nat.reducePow] at *;omega))
  obtain ⟨x3,fx3⟩:∃ v,x2 + v3 = v:=⟨_,rfl⟩
  have Ox3:=hid (or_join 3 x2 v3 x3 (by simp only [Nat.reducePow] at *;omega) (by simp only [Nat.reducePow] at *;omega) fx3 (by simp only [Nat.reducePow] at *;omega))
  have E:wordsN s = x3:=by
    unfold wordsN
    rw [e1,e2,e3]
    clear e1 b1 C1 e2 b2 C2 e3 b3 C3 Ox2 Ox3
    omega
  rw [E]
  clear E hs e1 b1 e2 b2 e3 b3 fx2 fx3
  go_enter Tryz.func221,Tryz.ntmps221
  go_wp2_with fail
  refine (C0.out _).mono ?_
  rintro e w0 ⟨rfl,q0,rfl⟩
  go_wp2_with fail
  refine (C1.out _).mono ?_
  rintro e w1 ⟨rfl,q1,rfl⟩
  go_wp2_with fail
  refine (C2.out _).mono ?_
  rintro e w2 ⟨rfl,q2,rfl⟩
  go_wp2_with fail
  refine (C3.out _).mono ?_
  rintro e w3 ⟨rfl,q3,rfl⟩
  go_wp2
  go_ret
  exact ⟨ret_int (by rw [Ox2.out,Ox3.out]),_,rfl⟩

theorem offset_d (s:Nat) (w:World) (hs:s < 65536) (hd:pc s 13 1 = 1):Calls Tryz.prog 221 #[.int .u16 s] w fun e w'=>e = .returned (.int .i64 ((doublesN s:Nat):Int))∧∃ q,w' = w.drewN q:=by
  have C0:=hid (fun w=>double_yes s w hs hd)
  clear hd
  obtain ⟨v1,e1⟩:∃ v,pc s 5 2 * 64 = v:=⟨_,rfl⟩
  have b1:=pc_lt s 5 2
  have C1:=hid (bits_is s 6 5 6 v1 hs (by decide) (by decide) (by decide) e1)
  obtain ⟨v2,e2⟩:∃ v,pc s 10 3 * 8 = v:=⟨_,rfl⟩
  have b2:=pc_lt s 10 3
  have C2:=hid (bits_is s 12 10 3 v2 hs (by decide) (by decide) (by decide) e2)
  obtain ⟨x2,fx2⟩:∃ v,v1 + v2 = v:=⟨_,rfl⟩
  have Ox2:=hid (or_join 6 v1 v2 x2 (by simp only [Nat.reducePow] at *;omega) (by simp only [Nat.reducePow] at *;omega) fx2 (by simp only [Nat.reducePow] at *;omega))
  have E:doublesN s = x2:=by
    unfold doublesN
    rw [e1,e2]
    clear e1 b1 C1 e2 b2 C2 Ox2
    omega
  rw [E]
  clear E hs e1 b1 e2 b2 fx2
  go_enter Tryz.func221,Tryz.ntmps221
  go_wp2_with fail
  refine (C0.out _).mono ?_
  rintro e w0 ⟨rfl,q0,rfl⟩
  go_wp2_with fail
  refine (C1.out _).mono ?_
  rintro e w1 ⟨rfl,q1,rfl⟩
  go_wp2_with fail
  refine (C2.out _).mono ?_
  rintro e w2 ⟨rfl,q2,rfl⟩
  go_wp2
  go_ret
  exact ⟨ret_int (by rw [Ox2.out]),_,rfl⟩

theorem loadOffset_w (s:Nat) (w:World) (hs:s < 65536) (hd:pc s 13 1 = 0):Calls Tryz.prog 232 #[.int .u16 s] w fun e w'=>e = .returned (.int .i64 ((loadW s:Nat):Int))∧∃ q,w' = w.drewN q:=by
  have C0:=hid (fun w=>double_no s w hs hd)
  clear hd
  obtain ⟨v1,e1⟩:∃ v,pc s 2 2 * 64 = v:=⟨_,rfl⟩
  have b1:=pc_lt s 2 2
  have C1:=hid (bits_is s 3 2 6 v1 hs (by decide) (by decide) (by decide) e1)
  obtain ⟨v2,e2⟩:∃ v,pc s 12 1 * 32 = v:=⟨_,rfl⟩
  have b2:=pc_lt s 12 1
  have C2:=hid (bits_is s 12 12 5 v2 hs (by decide) (by decide) (by decide) e2)
  obtain ⟨v3,e3⟩:∃ v,pc s 4 3 * 4 = v:=⟨_,rfl⟩
  have b3:=pc_lt s 4 3
  have C3:=hid (bits_is s 6 4 2 v3 hs (by decide) (by decide) (by decide) e3)
  obtain ⟨x2,fx2⟩:∃ v,v1 + v2 = v:=⟨_,rfl⟩
  have Ox2:=hid (or_join 6 v1 v2 x2 (by simp only [Nat.reducePow] at *;omega) (by simp only [Nat.reducePow] at *;omega) fx2 (by simp only [Nat.reducePow] at *;omega))
  obtain ⟨x3,fx3⟩:∃ v,x2 + v3 = v:=⟨_,rfl⟩
  have Ox3:=hid (or_join 5 x2 v3 x3 (by simp only [Nat.reducePow] at *;omega) (by simp only [Nat.reducePow] at *;omega) fx3 (by simp only [Nat.reducePow] at *;omega))
  have E:loadW s = x3:=by
    unfold loadW
    rw [e1,e2,e3]
    clear e1 b1 C1 e2 b2 C2 e3 b3 C3 Ox2 Ox3
    omega
  rw [E]
  clear E hs e1 b1 e2 b2 e3 b3 fx2 fx3
  go_enter Tryz.func232,Tryz.ntmps232
  go_wp2_with fail
  refine (C0.out _).mono ?_
  rintro e w0 ⟨rfl,q0,rfl⟩
  go_wp2_with fail
  refine (C1.out _).mono ?_
  rintro e w1 ⟨rfl,q1,rfl⟩
  go_wp2_with fail
  refine (C2.out _).mono ?_
  rintro e w2 ⟨rfl,q2,rfl⟩
  go_wp2_with fail
  refine (C3.out _).mono ?_
  rintro e w3 ⟨rfl,q3,rfl⟩
  go_wp2
  go_ret
  exact ⟨ret_int (by rw [Ox2.out,Ox3.out]),_,rfl⟩

theorem loadOffset_d (s:Nat) (w:World) (hs:s < 65536) (hd:pc s 13 1 = 1):Calls Tryz.prog 232 #[.int .u16 s] w fun e w'=>e = .returned (.int .i64 ((loadD s:Nat):Int))∧∃ q,w' = w.drewN q:=by
  have C0:=hid (fun w=>double_yes s w hs hd)
  clear hd
  obtain ⟨v1,e1⟩:∃ v,pc s 2 3 * 64 = v:=⟨_,rfl⟩
  have b1:=pc_lt s 2 3
  have C1:=hid (bits_is s 4 2 6 v1 hs (by decide) (by decide) (by decide) e1)
  obtain ⟨v2,e2⟩:∃ v,pc s 12 1 * 32 = v:=⟨_,rfl⟩
  have b2:=pc_lt s 12 1
  have C2:=hid (bits_is s 12 12 5 v2 hs (by decide) (by decide) (by decide) e2)
  obtain ⟨v3,e3⟩:∃ v,pc s 5 2 * 8 = v:=⟨_,rfl⟩
  have b3:=pc_lt s 5 2
  have C3:=hid (bits_is s 6 5 3 v3 hs (by decide) (by decide) (by decide) e3)
  obtain ⟨x2,fx2⟩:∃ v,v1 + v2 = v:=⟨_,rfl⟩
  have Ox2:=hid (or_join 6 v1 v2 x2 (by simp only [Nat.reducePow] at *;omega) (by simp only [Nat.reducePow] at *;omega) fx2 (by simp only [Nat.reducePow] at *;omega))
  obtain ⟨x3,fx3⟩:∃ v,x2 + v3 = v:=⟨_,rfl⟩
  have Ox3:=hid (or_join 5 x2 v3 x3 (by simp only [Nat.reducePow] at *;omega) (by simp only [Nat.reducePow] at *;omega) fx3 (by simp only [Nat.reducePow] at *;omega))
  have E:loadD s = x3:=by
    unfold loadD
    rw [e1,e2,e3]
    clear e1 b1 C1 e2 b2 C2 e3 b3 C3 Ox2 Ox3
    omega
  rw [E]
  clear E hs e1 b1 e2 b2 e3 b3 fx2 fx3
  go_enter Tryz.func232,Tryz.ntmps232
  go_wp2_with fail
  refine (C0.out _).mono ?_
  rintro e w0 ⟨rfl,q0,rfl⟩
  go_wp2_with fail
  refine (C1.out _).mono ?_
  rintro e w1 ⟨rfl,q1,rfl⟩
  go_wp2_with fail
  refine (C2.out _).mono ?_
  rintro e w2 ⟨rfl,q2,rfl⟩
  go_wp2_with fail
  refine (C3.out _).mono ?_
  rintro e w3 ⟨rfl,q3,rfl⟩
  go_wp2
  go_ret
  exact ⟨ret_int (by rw [Ox2.out,Ox3.out]),_,rfl⟩

theorem storeOffset_w (s:Nat) (w:World) (hs:s < 65536) (hd:pc s 13 1 = 0):Calls Tryz.prog 231 #[.int .u16 s] w fun e w'=>e = .returned (.int .i64 ((storeW s:Nat):Int))∧∃ q,w' = w.drewN q:=by
  have C0:=hid (fun w=>double_no s w hs hd)
  clear hd
  obtain ⟨v1,e1⟩:∃ v,pc s 7 2 * 64 = v:=⟨_,rfl⟩
  have b1:=pc_lt s 7 2
  have C1:=hid (bits_is s 8 7 6 v1 hs (by decide) (by decide) (by decide) e1)
  obtain ⟨v2,e2⟩:∃ v,pc s 9 4 * 4 = v:=⟨_,rfl⟩
  have b2:=pc_lt s 9 4
  have C2:=hid (bits_is s 12 9 2 v2 hs (by decide) (by decide) (by decide) e2)
  obtain ⟨x2,fx2⟩:∃ v,v1 + v2 = v:=⟨_,rfl⟩
  have Ox2:=hid (or_join 6 v1 v2 x2 (by simp only [Nat.reducePow] at *;omega) (by simp only [Nat.reducePow] at *;omega) fx2 (by simp only [Nat.reducePow] at *;omega))
  have E:storeW s = x2:=by
    unfold storeW
    rw [e1,e2]
    clear e1 b1 C1 e2 b2 C2 Ox2
    omega
  rw [E]
  clear E hs e1 b1 e2 b2 fx2
  go_enter Tryz.func231,Tryz.ntmps231
  go_wp2_with fail
  refine (C0.out _).mono ?_
  rintro e w0 ⟨rfl,q0,rfl⟩
  go_wp2_with fail
  refine (C1.out _).mono ?_
  rintro e w1 ⟨rfl,q1,rfl⟩
  go_wp2_with fail
  refine (C2.out _).mono ?_
  rintro e w2 ⟨rfl,q2,rfl⟩
  go_wp2
  go_ret
  exact ⟨ret_int (by rw [Ox2.out]),_,rfl⟩

theorem storeOffset_d (s:Nat) (w:World) (hs:s < 65536) (hd:pc s 13 1 = 1):Calls Tryz.prog 231 #[.int .u16 s] w fun e w'=>e = .returned (.int .i64 ((storeD s:Nat):Int))∧∃ q,w' = w.drewN q:=by
  have C0:=hid (fun w=>double_yes s w hs hd)
  clear hd
  obtain ⟨v1,e1⟩:∃ v,pc s 7 3 * 64 = v:=⟨_,rfl⟩
  have b1:=pc_lt s 7 3
  have C1:=hid (bits_is s 9 7 6 v1 hs (by decide) (by decide) (by decide) e1)
  obtain ⟨v2,e2⟩:∃ v,pc s 10 3 * 8 = v:=⟨_,rfl⟩
  have b2:=pc_lt s 10 3
  have C2:=hid (bits_is s 12 10 3 v2 hs (by decide) (by decide) (by decide) e2)
  obtain ⟨x2,fx2⟩:∃ v,v1 + v2 = v:=⟨_,rfl⟩
  have Ox2:=hid (or_join 6 v1 v2 x2 (by simp only [Nat.reducePow] at *;omega) (by simp only [Nat.reducePow] at *;omega) fx2 (by simp only [Nat.reducePow] at *;omega))
  have E:storeD s = x2:=by
    unfold storeD
    rw [e1,e2]
    clear e1 b1 C1 e2 b2 C2 Ox2
    omega
  rw [E]
  clear E hs e1 b1 e2 b2 fx2
  go_enter Tryz.func231,Tryz.ntmps231
  go_wp2_with fail
  refine (C0.out _).mono ?_
  rintro e w0 ⟨rfl,q0,rfl⟩
  go_wp2_with fail
  refine (C1.out _).mono ?_
  rintro e w1 ⟨rfl,q1,rfl⟩
  go_wp2_with fail
  refine (C2.out _).mono ?_
  rintro e w2 ⟨rfl,q2,rfl⟩
  go_wp2
  go_ret
  exact ⟨ret_int (by rw [Ox2.out]),_,rfl⟩

theorem number_any (s:Nat) (w:World) (hs:s < 65536):Calls Tryz.prog 223 #[.int .u16 s] w fun e w'=>e = .returned (.int .i64 (low (shiftN s:Nat) 6))∧∃ q,w' = w.drewN q:=by
  have C:=hid (fun w=>shiftC_any s w hs)
  generalize shiftN s = v at *
  have D:=hid (fun w=>csigned_any (v:Int) 6 w (by decide) (by decide))
  generalize low (v:Int) 6 = d at *
  clear hs
  go_enter Tryz.func223,Tryz.ntmps223
  go_wp2_with fail
  refine (C.out _).mono ?_
  rintro e w1 ⟨rfl,q,rfl⟩
  go_wp2_with fail
  refine (D.out _).mono ?_
  rintro e w2 ⟨rfl,rfl⟩
  go_wp2
  go_ret
  exact ⟨rfl,_,rfl⟩
theorem upperNumber_any (s:Nat) (w:World) (hs:s < 65536):Calls Tryz.prog 238 #[.int .u16 s] w fun e w'=>e = .returned (.int .i64 (low (shiftN s:Nat) 6 * 4096))∧∃ q,w' = w.drewN q:=by
  have C:=hid (fun w=>number_any s w hs)
  have l1:-32 ≤ low (shiftN s:Nat) 6:=low_lo _ 6
  have l2:low (shiftN s:Nat) 6 < 32:=low_hi _ 6 (by decide)
  generalize low (shiftN s:Nat) 6 = d at *
  clear hs
  go_enter Tryz.func238,Tryz.ntmps238
  go_wp2_with fail
  refine (C.out _).mono ?_
  rintro e w1 ⟨rfl,q,rfl⟩
  go_wp2
  go_ret
  exact ⟨ret_int (by first | rfl | (unfold wrap64;omega) | simp),_,rfl⟩
end Go.Proofs.YtlhpodholnfppaaGreatDoor.Td
