/-
  What the program's operators reckon, group by group: contracts of the functions of package alu.
  What the program's Do and Known answer, whatever the operator is.
  What the reference's helpers of the operators answer: comparisons with a sign, shifts to the right.
  Which branches are taken: contracts of Taken, of the program and of the reference.
  The program's functions of a machine's state: place, jump, branch, reckon.
  What an instruction does with a machine's state and the bytes of its space: an inductive of its outcomes; there is only one.
-/
import Derived.Test.YtlhpodholnfppaaGreatDoorT25
import Derived.Test.YtlhpodholnfppaaGreatDoorT13
import Derived.Deep.QuietTactic
import Derived.BigQuiet
import Derived.Lib.Hide
set_option linter.unusedVariables false
set_option linter.unusedSimpArgs false
set_option maxHeartbeats 16000000
open Go.Lib (hid)
namespace Go.Proofs.YtlhpodholnfppaaGreatDoor
open Go.RowKit

theorem and63 (x:Int) (h0:0 ≤ x) (h:x < 18446744073709551616):∃ k:Nat,k < 64∧bits .and .u64 x 63 = (k:Int)∧x % 64 = k:=by
  obtain ⟨X,rfl⟩:=Int.eq_ofNat_of_zero_le h0
  have e:X &&& 63 = X % 64:=Nat.and_two_pow_sub_one_eq_mod X 6
  have:=u64_and_nat X 63 (by omega) (by decide)
  rw [e] at this
  exact ⟨X % 64,by omega,this,by omega⟩
theorem and31 (x:Int) (h0:0 ≤ x) (h:x < 4294967296):∃ k:Nat,k < 32∧bits .and .u32 x 31 = (k:Int)∧x % 32 = k:=by
  obtain ⟨X,rfl⟩:=Int.eq_ofNat_of_zero_le h0
  have e:X &&& 31 = X % 32:=Nat.and_two_pow_sub_one_eq_mod X 5
  have:=u32_and_nat X 31 (by omega) (by decide)
  rw [e] at this
  exact ⟨X % 32,by omega,this,by omega⟩

def oneI (c:Bool):Int:=if c then 1 else 0
def plainV (op a b:Int):Int:=
  if op = 22 ∨ op = 31 then IntKind.u64.wrap (a + b)
  else if op = 32 then IntKind.u64.wrap (a - b)
  else if op = 25 ∨ op = 36 then bits .xor .u64 a b
  else if op = 26 ∨ op = 39 then bits .or .u64 a b
  else if op = 27 ∨ op = 40 then bits .and .u64 a b
  else if op = 23 ∨ op = 34 then oneI (decide (wrap64 a < wrap64 b))
  else if op = 24 ∨ op = 35 then oneI (decide (a < b))
  else b
def shiftV (op a b:Int):Int:=
  if op = 28 ∨ op = 33 then IntKind.u64.wrap (a * 2 ^ (b % 64).toNat)
  else if op = 29 ∨ op = 37 then a / 2 ^ (b % 64).toNat
  else IntKind.u64.wrap (wrap64 a / 2 ^ (b % 64).toNat)
def productV (op a b:Int):Int:=
  if op = 50 then IntKind.u64.wrap (a * b) else if op = 51 then mulhI a b else if op = 52 then mulhsuI a b else a * b / 18446744073709551616
def quotientV (op a b:Int):Int:=
  if op = 54 then divI a b else if op = 55 then divuI a b else if op = 56 then remI a b else remuI a b
def npV (op a b:Int):Int:=
  if op = 41 ∨ op = 45 then (a + b) % 4294967296
  else if op = 46 then (a - b) % 4294967296
  else if op = 58 then a * b % 4294967296
  else if op = 42 ∨ op = 47 then a * 2 ^ (b % 32).toNat % 4294967296
  else if op = 43 ∨ op = 48 then a / 2 ^ (b % 32).toNat
  else wrap32 a / 2 ^ (b % 32).toNat % 4294967296
def nqV (op a b:Int):Int:=
  if op = 59 then divI (sextI a 32) (sextI b 32) % 4294967296
  else if op = 61 then remI (sextI a 32) (sextI b 32) % 4294967296
  else if op = 60 then divuI a b % 4294967296
  else remuI a b % 4294967296

def plainOps:List Int:=[1,22,31,32,25,36,26,39,27,40,23,34,24,35]
def shiftOps:List Int:=[28,33,29,37,30,38]
def productOps:List Int:=[50,51,52,53]
def quotientOps:List Int:=[54,55,56,57]
def npOps:List Int:=[41,45,46,58,42,47,43,48,44,49]
def nqOps:List Int:=[59,61,60,62]

theorem oneIf_any (c:Bool) (w:World):Calls Tryz.prog 180 #[.bool c] w fun e w'=>e = .returned (.int .u64 (oneI c))∧w = w':=by
  cases c
  · go_enter Tryz.func180,Tryz.ntmps180
    go_wp2
    go_ret
    exact ⟨rfl,rfl⟩
  · go_enter Tryz.func180,Tryz.ntmps180
    go_wp2
    go_ret
    exact ⟨rfl,rfl⟩

theorem plain_yes (op a b:Int) (w:World) (hop:op ∈ plainOps) :
    Calls Tryz.prog 160 #[.int .i64 op,.int .u64 a,.int .u64 b] w fun e w'=>e = .returned (.tuple #[.int .u64 (plainV op a b),.bool true])∧w = w':=by
  simp only [plainOps,List.mem_cons,List.not_mem_nil,or_false] at hop
  rcases hop with rfl | rfl | rfl | rfl | rfl | rfl | rfl | rfl | rfl | rfl | rfl | rfl | rfl | rfl
  any_goals
    go_enter Tryz.func160,Tryz.ntmps160
    go_wp2
    go_ret2
    exact ⟨rfl,rfl⟩
  all_goals
    go_enter Tryz.func160,Tryz.ntmps160
    go_wp2_with fail
    refine (oneIf_any _ _).mono ?_
    rintro e w' ⟨rfl,rfl⟩
    go_wp2
    go_ret2
    exact ⟨rfl,rfl⟩
theorem plain_no (op a b:Int) (w:World) (hop:op ∉ plainOps) :
    Calls Tryz.prog 160 #[.int .i64 op,.int .u64 a,.int .u64 b] w fun e w'=>e = .returned (.tuple #[.int .u64 0,.bool false])∧w = w':=by
  simp only [plainOps,List.mem_cons,List.not_mem_nil,or_false,not_or] at hop
  obtain ⟨h1,h2,h3,h4,h5,h6,h7,h8,h9,h10,h11,h12,h13,h14⟩:=hop
  replace h1:=nin h1;replace h2:=nin h2;replace h3:=nin h3;replace h4:=nin h4;replace h5:=nin h5;replace h6:=nin h6;replace h7:=nin h7
  replace h8:=nin h8;replace h9:=nin h9;replace h10:=nin h10;replace h11:=nin h11;replace h12:=nin h12;replace h13:=nin h13;replace h14:=nin h14
  go_enter Tryz.func160,Tryz.ntmps160
  go_wp2
  go_ret2
  exact ⟨rfl,rfl⟩

theorem shift_yes (op a b:Int) (w:World) (hop:op ∈ shiftOps) (ha0:0 ≤ a) (ha:a < 18446744073709551616) (hb0:0 ≤ b) (hb:b < 18446744073709551616) :
    Calls Tryz.prog 161 #[.int .i64 op,.int .u64 a,.int .u64 b] w fun e w'=>e = .returned (.tuple #[.int .u64 (shiftV op a b),.bool true])∧w = w':=by
  obtain ⟨k,hk,hm,hq⟩:=and63 b hb0 hb
  have HQ:=hid (show (b % 64).toNat = k by omega);clear hq
  simp only [shiftOps,List.mem_cons,List.not_mem_nil,or_false] at hop
  rcases hop with rfl | rfl | rfl | rfl | rfl | rfl
  all_goals
    go_enter Tryz.func161,Tryz.ntmps161
    go_wp2
    go_ret2
    exact ⟨ret_pairb (by unfold shiftV;rw [HQ.out];rfl),rfl⟩
theorem shift_no (op a b:Int) (w:World) (hop:op ∉ shiftOps) :
    Calls Tryz.prog 161 #[.int .i64 op,.int .u64 a,.int .u64 b] w fun e w'=>e = .returned (.tuple #[.int .u64 0,.bool false])∧w = w':=by
  simp only [shiftOps,List.mem_cons,List.not_mem_nil,or_false,not_or] at hop
  obtain ⟨h1,h2,h3,h4,h5,h6⟩:=hop
  replace h1:=nin h1;replace h2:=nin h2;replace h3:=nin h3;replace h4:=nin h4;replace h5:=nin h5;replace h6:=nin h6
  go_enter Tryz.func161,Tryz.ntmps161
  go_wp2
  go_ret2
  exact ⟨rfl,rfl⟩

theorem product_yes (op a b:Int) (w:World) (hop:op ∈ productOps) (ha0:0 ≤ a) (ha:a < 18446744073709551616) (hb0:0 ≤ b) (hb:b < 18446744073709551616) :
    Calls Tryz.prog 162 #[.int .i64 op,.int .u64 a,.int .u64 b] w fun e w'=>e = .returned (.tuple #[.int .u64 (productV op a b),.bool true])∧w = w':=by
  simp only [productOps,List.mem_cons,List.not_mem_nil,or_false] at hop
  rcases hop with rfl | rfl | rfl | rfl
  · go_enter Tryz.func162,Tryz.ntmps162
    go_wp2
    go_ret2
    exact ⟨rfl,rfl⟩
  · go_enter Tryz.func162,Tryz.ntmps162
    go_wp2_with fail
    refine (mulh_any _ _ _ ha0 ha hb0 hb).mono ?_
    rintro e w' ⟨rfl,rfl⟩
    go_wp2
    go_ret2
    exact ⟨rfl,rfl⟩
  · go_enter Tryz.func162,Tryz.ntmps162
    go_wp2_with fail
    refine (mulhsu_any _ _ _ ha0 ha hb0 hb).mono ?_
    rintro e w' ⟨rfl,rfl⟩
    go_wp2
    go_ret2
    exact ⟨rfl,rfl⟩
  · go_enter Tryz.func162,Tryz.ntmps162
    go_wp2_with fail
    refine (mulhu_any _ _ _ ha0 ha hb0 hb).mono ?_
    rintro e w' ⟨rfl,rfl⟩
    go_wp2
    go_ret2
    exact ⟨rfl,rfl⟩
theorem product_no (op a b:Int) (w:World) (hop:op ∉ productOps) :
    Calls Tryz.prog 162 #[.int .i64 op,.int .u64 a,.int .u64 b] w fun e w'=>e = .returned (.tuple #[.int .u64 0,.bool false])∧w = w':=by
  simp only [productOps,List.mem_cons,List.not_mem_nil,or_false,not_or] at hop
  obtain ⟨h1,h2,h3,h4⟩:=hop
  replace h1:=nin h1;replace h2:=nin h2;replace h3:=nin h3;replace h4:=nin h4
  go_enter Tryz.func162,Tryz.ntmps162
  go_wp2
  go_ret2
  exact ⟨rfl,rfl⟩

theorem quotient_yes (op a b:Int) (w:World) (hop:op ∈ quotientOps) (ha0:0 ≤ a) (ha:a < 18446744073709551616) (hb0:0 ≤ b) (hb:b < 18446744073709551616) :
    Calls Tryz.prog 163 #[.int .i64 op,.int .u64 a,.int .u64 b] w fun e w'=>e = .returned (.tuple #[.int .u64 (quotientV op a b),.bool true])∧w = w':=by
  simp only [quotientOps,List.mem_cons,List.not_mem_nil,or_false] at hop
  rcases hop with rfl | rfl | rfl | rfl
  · go_enter Tryz.func163,Tryz.ntmps163
    go_wp2_with fail
    refine (div_any _ _ _ hb0 hb).mono ?_
    rintro e w' ⟨rfl,rfl⟩
    go_wp2
    go_ret2
    exact ⟨rfl,rfl⟩
  · go_enter Tryz.func163,Tryz.ntmps163
    go_wp2_with fail
    refine (divu_any _ _ _ ha0 ha hb0).mono ?_
    rintro e w' ⟨rfl,rfl⟩
    go_wp2
    go_ret2
    exact ⟨rfl,rfl⟩
  · go_enter Tryz.func163,Tryz.ntmps163
    go_wp2_with fail
    refine (rem_any _ _ _ hb0 hb).mono ?_
    rintro e w' ⟨rfl,rfl⟩
    go_wp2
    go_ret2
    exact ⟨rfl,rfl⟩
  · go_enter Tryz.func163,Tryz.ntmps163
    go_wp2_with fail
    refine (remu_any _ _ _ ha0 ha hb0).mono ?_
    rintro e w' ⟨rfl,rfl⟩
    go_wp2
    go_ret2
    exact ⟨rfl,rfl⟩
theorem quotient_no (op a b:Int) (w:World) (hop:op ∉ quotientOps) :
    Calls Tryz.prog 163 #[.int .i64 op,.int .u64 a,.int .u64 b] w fun e w'=>e = .returned (.tuple #[.int .u64 0,.bool false])∧w = w':=by
  simp only [quotientOps,List.mem_cons,List.not_mem_nil,or_false,not_or] at hop
  obtain ⟨h1,h2,h3,h4⟩:=hop
  replace h1:=nin h1;replace h2:=nin h2;replace h3:=nin h3;replace h4:=nin h4
  go_enter Tryz.func163,Tryz.ntmps163
  go_wp2
  go_ret2
  exact ⟨rfl,rfl⟩

theorem np_yes (op a b:Int) (w:World) (hop:op ∈ npOps) (ha0:0 ≤ a) (ha:a < 4294967296) (hb0:0 ≤ b) (hb:b < 4294967296) :
    Calls Tryz.prog 188 #[.int .i64 op,.int .u32 a,.int .u32 b] w fun e w'=>e = .returned (.tuple #[.int .u32 (npV op a b),.bool true])∧w = w':=by
  obtain ⟨k,hk,hm,hq⟩:=and31 b hb0 hb
  have HQ:=hid (show (b % 32).toNat = k by omega);clear hq
  simp only [npOps,List.mem_cons,List.not_mem_nil,or_false] at hop
  rcases hop with rfl | rfl | rfl | rfl | rfl | rfl | rfl | rfl | rfl | rfl
  all_goals
    go_enter Tryz.func188,Tryz.ntmps188
    go_wp2
    go_ret2
    exact ⟨ret_pairb (by unfold npV;rw [HQ.out];rfl),rfl⟩
theorem np_no (op a b:Int) (w:World) (hop:op ∉ npOps) :
    Calls Tryz.prog 188 #[.int .i64 op,.int .u32 a,.int .u32 b] w fun e w'=>e = .returned (.tuple #[.int .u32 0,.bool false])∧w = w':=by
  simp only [npOps,List.mem_cons,List.not_mem_nil,or_false,not_or] at hop
  obtain ⟨h1,h2,h3,h4,h5,h6,h7,h8,h9,h10⟩:=hop
  replace h1:=nin h1;replace h2:=nin h2;replace h3:=nin h3;replace h4:=nin h4;replace h5:=nin h5;replace h6:=nin h6;replace h7:=nin h7
  replace h8:=nin h8;replace h9:=nin h9;replace h10:=nin h10
  go_enter Tryz.func188,Tryz.ntmps188
  go_wp2
  go_ret2
  exact ⟨rfl,rfl⟩

theorem sext32_bd (x:Int):0 ≤ sextI x 32∧sextI x 32 < 18446744073709551616:=by
  unfold sextI;rw [if_pos (by decide)];exact sx_bd _ _
theorem signed_any (x:Int) (w:World) (h0:0 ≤ x) (h:x < 4294967296) :
    Calls Tryz.prog 215 #[.int .u32 x] w fun e w'=>e = .returned (.int .u64 (sextI x 32))∧w = w':=by
  go_enter Tryz.func215,Tryz.ntmps215
  go_wp2_with fail
  refine (sext_any _ _ _).mono ?_
  rintro e w' ⟨rfl,rfl⟩
  go_wp2
  go_ret
  exact ⟨rfl,rfl⟩

theorem nq_yes (op a b:Int) (w:World) (hop:op ∈ nqOps) (ha0:0 ≤ a) (ha:a < 4294967296) (hb0:0 ≤ b) (hb:b < 4294967296) :
    Calls Tryz.prog 189 #[.int .i64 op,.int .u32 a,.int .u32 b] w fun e w'=>e = .returned (.tuple #[.int .u32 (nqV op a b),.bool true])∧w = w':=by
  have hs:=sext32_bd b
  simp only [nqOps,List.mem_cons,List.not_mem_nil,or_false] at hop
  rcases hop with rfl | rfl | rfl | rfl
  · go_enter Tryz.func189,Tryz.ntmps189
    go_wp2_with fail
    refine (signed_any _ _ ha0 ha).mono ?_
    rintro e w' ⟨rfl,rfl⟩
    go_wp2_with fail
    refine (signed_any _ _ hb0 hb).mono ?_
    rintro e w' ⟨rfl,rfl⟩
    go_wp2_with fail
    refine (div_any _ _ _ hs.1 hs.2).mono ?_
    rintro e w' ⟨rfl,rfl⟩
    go_wp2
    go_ret2
    exact ⟨rfl,rfl⟩
  · go_enter Tryz.func189,Tryz.ntmps189
    go_wp2_with fail
    refine (signed_any _ _ ha0 ha).mono ?_
    rintro e w' ⟨rfl,rfl⟩
    go_wp2_with fail
    refine (signed_any _ _ hb0 hb).mono ?_
    rintro e w' ⟨rfl,rfl⟩
    go_wp2_with fail
    refine (rem_any _ _ _ hs.1 hs.2).mono ?_
    rintro e w' ⟨rfl,rfl⟩
    go_wp2
    go_ret2
    exact ⟨rfl,rfl⟩
  · go_enter Tryz.func189,Tryz.ntmps189
    go_wp2_with fail
    refine (divu_any _ _ _ ha0 (by omega) hb0).mono ?_
    rintro e w' ⟨rfl,rfl⟩
    go_wp2
    go_ret2
    exact ⟨rfl,rfl⟩
  · go_enter Tryz.func189,Tryz.ntmps189
    go_wp2_with fail
    refine (remu_any _ _ _ ha0 (by omega) hb0).mono ?_
    rintro e w' ⟨rfl,rfl⟩
    go_wp2
    go_ret2
    exact ⟨rfl,rfl⟩
theorem nq_no (op a b:Int) (w:World) (hop:op ∉ nqOps) :
    Calls Tryz.prog 189 #[.int .i64 op,.int .u32 a,.int .u32 b] w fun e w'=>e = .returned (.tuple #[.int .u32 0,.bool false])∧w = w':=by
  simp only [nqOps,List.mem_cons,List.not_mem_nil,or_false,not_or] at hop
  obtain ⟨h1,h2,h3,h4⟩:=hop
  replace h1:=nin h1;replace h2:=nin h2;replace h3:=nin h3;replace h4:=nin h4
  go_enter Tryz.func189,Tryz.ntmps189
  go_wp2
  go_ret2
  exact ⟨rfl,rfl⟩
end Go.Proofs.YtlhpodholnfppaaGreatDoor

namespace Go.Proofs.YtlhpodholnfppaaGreatDoor
open Go.RowKit

def narrowV (op a b:Int):Int:=if op ∈ npOps then sextI (npV op (a % 4294967296) (b % 4294967296)) 32 else sextI (nqV op (a % 4294967296) (b % 4294967296)) 32
def narrowOps:List Int:=npOps ++ nqOps

theorem np_bd (op a b:Int) (ha0:0 ≤ a) (ha:a < 4294967296):0 ≤ npV op a b∧npV op a b < 4294967296:=by
  have hq:0 ≤ a / 2 ^ (b % 32).toNat∧a / 2 ^ (b % 32).toNat ≤ a:=quo_le a _ ha0 (pow_pos' _)
  unfold npV
  repeat' split
  all_goals omega
theorem nq_bd (op a b:Int):0 ≤ nqV op a b∧nqV op a b < 4294967296:=by
  unfold nqV
  repeat' split
  all_goals omega

theorem narrow_yes (op a b:Int) (w:World) (hop:op ∈ narrowOps) (ha0:0 ≤ a) (ha:a < 18446744073709551616) (hb0:0 ≤ b) (hb:b < 18446744073709551616) :
    Calls Tryz.prog 164 #[.int .i64 op,.int .u64 a,.int .u64 b] w fun e w'=>e = .returned (.tuple #[.int .u64 (narrowV op a b),.bool true])∧w = w':=by
  by_cases h:op ∈ npOps
  · unfold narrowV;rw [if_pos h]
    have hbd:=np_bd op (a % 4294967296) (b % 4294967296) (by omega) (by omega)
    have c:=fun w=>np_yes op (a % 4294967296) (b % 4294967296) w h (by omega) (by omega) (by omega) (by omega)
    clear h hop
    generalize npV op (a % 4294967296) (b % 4294967296) = r at *
    go_enter Tryz.func164,Tryz.ntmps164
    go_wp2_with fail
    refine (c _).mono ?_
    rintro e w' ⟨rfl,rfl⟩
    clear c
    go_wp2_with fail
    refine (sext_any _ _ _).mono ?_
    rintro e w' ⟨rfl,rfl⟩
    go_wp2
    go_ret2
    exact ⟨rfl,rfl⟩
  · unfold narrowV;rw [if_neg h]
    have h2:op ∈ nqOps:=by
      rcases List.mem_append.1 hop with k | k
      · exact absurd k h
      · exact k
    have hbd:=nq_bd op (a % 4294967296) (b % 4294967296)
    have c:=fun w=>np_no op (a % 4294967296) (b % 4294967296) w h
    have d:=fun w=>nq_yes op (a % 4294967296) (b % 4294967296) w h2 (by omega) (by omega) (by omega) (by omega)
    clear h hop h2
    generalize nqV op (a % 4294967296) (b % 4294967296) = r at *
    go_enter Tryz.func164,Tryz.ntmps164
    go_wp2_with fail
    refine (c _).mono ?_
    rintro e w' ⟨rfl,rfl⟩
    clear c
    go_wp2_with fail
    refine (d _).mono ?_
    rintro e w' ⟨rfl,rfl⟩
    clear d
    go_wp2_with fail
    refine (sext_any _ _ _).mono ?_
    rintro e w' ⟨rfl,rfl⟩
    go_wp2
    go_ret2
    exact ⟨rfl,rfl⟩
theorem narrow_no (op a b:Int) (w:World) (hop:op ∉ narrowOps) :
    Calls Tryz.prog 164 #[.int .i64 op,.int .u64 a,.int .u64 b] w fun e w'=>e = .returned (.tuple #[.int .u64 0,.bool false])∧w = w':=by
  have h1:op ∉ npOps:=fun h=>hop (List.mem_append.2 (.inl h))
  have h2:op ∉ nqOps:=fun h=>hop (List.mem_append.2 (.inr h))
  have c:=fun w=>np_no op (a % 4294967296) (b % 4294967296) w h1
  have d:=fun w=>nq_no op (a % 4294967296) (b % 4294967296) w h2
  clear h1 h2 hop
  go_enter Tryz.func164,Tryz.ntmps164
  go_wp2_with fail
  refine (c _).mono ?_
  rintro e w' ⟨rfl,rfl⟩
  clear c
  go_wp2_with fail
  refine (d _).mono ?_
  rintro e w' ⟨rfl,rfl⟩
  clear d
  go_wp2_with fail
  refine (sext_any _ _ _).mono ?_
  rintro e w' ⟨rfl,rfl⟩
  go_wp2
  go_ret2
  exact ⟨rfl,rfl⟩

def doV (op a b:Int):Int:=
  if op ∈ plainOps then plainV op a b else if op ∈ shiftOps then shiftV op a b else if op ∈ productOps then productV op a b
  else if op ∈ quotientOps then quotientV op a b else narrowV op a b
def doOps:List Int:=plainOps ++ (shiftOps ++ (productOps ++ (quotientOps ++ narrowOps)))

theorem do_yes (op a b:Int) (w:World) (hop:op ∈ doOps) (ha0:0 ≤ a) (ha:a < 18446744073709551616) (hb0:0 ≤ b) (hb:b < 18446744073709551616) :
    Calls Tryz.prog 134 #[.int .i64 op,.int .u64 a,.int .u64 b] w fun e w'=>e = .returned (.tuple #[.int .u64 (doV op a b),.bool true])∧w = w':=by
  unfold doV
  by_cases h1:op ∈ plainOps
  · rw [if_pos h1]
    have c1:=fun w=>plain_yes op a b w h1
    clear h1 hop
    go_enter Tryz.func134,Tryz.ntmps134
    go_wp2_with fail
    refine (c1 _).mono ?_
    rintro e w' ⟨rfl,rfl⟩
    clear c1
    go_wp2
    go_ret2
    exact ⟨rfl,rfl⟩
  rw [if_neg h1]
  have c1:=fun w=>plain_no op a b w h1
  by_cases h2:op ∈ shiftOps
  · rw [if_pos h2]
    have c2:=fun w=>shift_yes op a b w h2 ha0 ha hb0 hb
    clear h1 h2 hop
    go_enter Tryz.func134,Tryz.ntmps134
    go_wp2_with fail
    refine (c1 _).mono ?_
    rintro e w' ⟨rfl,rfl⟩
    clear c1
    go_wp2_with fail
    refine (c2 _).mono ?_
    rintro e w' ⟨rfl,rfl⟩
    clear c2
    go_wp2
    go_ret2
    exact ⟨rfl,rfl⟩
  rw [if_neg h2]
  have c2:=fun w=>shift_no op a b w h2
  by_cases h3:op ∈ productOps
  · rw [if_pos h3]
    have c3:=fun w=>product_yes op a b w h3 ha0 ha hb0 hb
    clear h1 h2 h3 hop
    go_enter Tryz.func134,Tryz.ntmps134
    go_wp2_with fail
    refine (c1 _).mono ?_
    rintro e w' ⟨rfl,rfl⟩
    clear c1
    go_wp2_with fail
    refine (c2 _).mono ?_
    rintro e w' ⟨rfl,rfl⟩
    clear c2
    go_wp2_with fail
    refine (c3 _).mono ?_
    rintro e w' ⟨rfl,rfl⟩
    clear c3
    go_wp2
    go_ret2
    exact ⟨rfl,rfl⟩
  rw [if_neg h3]
  have c3:=fun w=>product_no op a b w h3
  by_cases h4:op ∈ quotientOps
  · rw [if_pos h4]
    have c4:=fun w=>quotient_yes op a b w h4 ha0 ha hb0 hb
    clear h1 h2 h3 h4 hop
    go_enter Tryz.func134,Tryz.ntmps134
    go_wp2_with fail
    refine (c1 _).mono ?_
    rintro e w' ⟨rfl,rfl⟩
    clear c1
    go_wp2_with fail
    refine (c2 _).mono ?_
    rintro e w' ⟨rfl,rfl⟩
    clear c2
    go_wp2_with fail
    refine (c3 _).mono ?_
    rintro e w' ⟨rfl,rfl⟩
    clear c3
    go_wp2_with fail
    refine (c4 _).mono ?_
    rintro e w' ⟨rfl,rfl⟩
    clear c4
    go_wp2
    go_ret2
    exact ⟨rfl,rfl⟩
  rw [if_neg h4]
  have c4:=fun w=>quotient_no op a b w h4
  have h5:op ∈ narrowOps:=by
    unfold doOps at hop
    rcases List.mem_append.1 hop with k | k
    · exact absurd k h1
    rcases List.mem_append.1 k with k | k
    · exact absurd k h2
    rcases List.mem_append.1 k with k | k
    · exact absurd k h3
    rcases List.mem_append.1 k with k | k
    · exact absurd k h4
    exact k
  have c5:=fun w=>narrow_yes op a b w h5 ha0 ha hb0 hb
  clear h1 h2 h3 h4 h5 hop
  go_enter Tryz.func134,Tryz.ntmps134
  go_wp2_with fail
  refine (c1 _).mono ?_
  rintro e w' ⟨rfl,rfl⟩
  clear c1
  go_wp2_with fail
  refine (c2 _).mono ?_
  rintro e w' ⟨rfl,rfl⟩
  clear c2
  go_wp2_with fail
  refine (c3 _).mono ?_
  rintro e w' ⟨rfl,rfl⟩
  clear c3
  go_wp2_with fail
  refine (c4 _).mono ?_
  rintro e w' ⟨rfl,rfl⟩
  clear c4
  go_wp2_with fail
  refine (c5 _).mono ?_
  rintro e w' ⟨rfl,rfl⟩
  clear c5
  go_wp2
  go_ret2
  exact ⟨rfl,rfl⟩
theorem do_no (op a b:Int) (w:World) (hop:op ∉ doOps) :
    Calls Tryz.prog 134 #[.int .i64 op,.int .u64 a,.int .u64 b] w fun e w'=>e = .returned (.tuple #[.int .u64 0,.bool false])∧w = w':=by
  simp only [doOps,List.mem_append,not_or] at hop
  obtain ⟨h1,h2,h3,h4,h5⟩:=hop
  have c1:=fun w=>plain_no op a b w h1
  have c2:=fun w=>shift_no op a b w h2
  have c3:=fun w=>product_no op a b w h3
  have c4:=fun w=>quotient_no op a b w h4
  have c5:=fun w=>narrow_no op a b w h5
  clear h1 h2 h3 h4 h5
  go_enter Tryz.func134,Tryz.ntmps134
  go_wp2_with fail
  refine (c1 _).mono ?_
  rintro e w' ⟨rfl,rfl⟩
  clear c1
  go_wp2_with fail
  refine (c2 _).mono ?_
  rintro e w' ⟨rfl,rfl⟩
  clear c2
  go_wp2_with fail
  refine (c3 _).mono ?_
  rintro e w' ⟨rfl,rfl⟩
  clear c3
  go_wp2_with fail
  refine (c4 _).mono ?_
  rintro e w' ⟨rfl,rfl⟩
  clear c4
  go_wp2_with fail
  refine (c5 _).mono ?_
  rintro e w' ⟨rfl,rfl⟩
  clear c5
  go_wp2
  go_ret2
  exact ⟨rfl,rfl⟩

end Go.Proofs.YtlhpodholnfppaaGreatDoor

namespace Go.Proofs.YtlhpodholnfppaaGreatDoor
open Go.RowKit

end Go.Proofs.YtlhpodholnfppaaGreatDoor

namespace Go.Proofs.YtlhpodholnfppaaGreatDoor
open Go.RowKit
def takenV (op a b:Int):Bool:=
  if op = 5 then a == b else if op = 6 then a != b else if op = 7 then decide (wrap64 a < wrap64 b) else if op = 8 then !(decide (wrap64 a < wrap64 b))
  else if op = 9 then decide (a < b) else !(decide (a < b))
def takenOps:List Int:=[5,6,7,8,9,10]
theorem ret_two {a b c:Bool} (h:a = b):Ending.returned (.tuple #[.bool a,.bool c]) = .returned (.tuple #[.bool b,.bool c]):=by rw [h]
theorem le_not (x y:Int):decide (y ≤ x) = !(decide (x < y)):=by
  by_cases h:x < y
  · rw [decide_eq_true h,decide_eq_false (by omega)];rfl
  · rw [decide_eq_false h,decide_eq_true (by omega)];rfl
theorem taken_yes (op a b:Int) (w:World) (hop:op ∈ takenOps) :
    Calls Tryz.prog 125 #[.int .i64 op,.int .u64 a,.int .u64 b] w fun e w'=>e = .returned (.tuple #[.bool (takenV op a b),.bool true])∧w = w':=by
  simp only [takenOps,List.mem_cons,List.not_mem_nil,or_false] at hop
  rcases hop with rfl | rfl | rfl | rfl | rfl | rfl
  · go_enter Tryz.func125,Tryz.ntmps125
    go_wp2
    go_ret2
    exact ⟨rfl,rfl⟩
  · go_enter Tryz.func125,Tryz.ntmps125
    go_wp2
    go_ret2
    exact ⟨rfl,rfl⟩
  · go_enter Tryz.func125,Tryz.ntmps125
    go_wp2
    go_ret2
    exact ⟨rfl,rfl⟩
  · go_enter Tryz.func125,Tryz.ntmps125
    go_wp2
    go_ret2
    exact ⟨ret_two (le_not _ _),rfl⟩
  · go_enter Tryz.func125,Tryz.ntmps125
    go_wp2
    go_ret2
    exact ⟨rfl,rfl⟩
  · go_enter Tryz.func125,Tryz.ntmps125
    go_wp2
    go_ret2
    exact ⟨ret_two (le_not _ _),rfl⟩
end Go.Proofs.YtlhpodholnfppaaGreatDoor

namespace Go.Proofs.YtlhpodholnfppaaGreatDoor
open Go.RowKit
set_option maxRecDepth 100000
theorem StAt.rx {w:World} {b:Nat} {pc ha hn:Int} {xs:List Int} (h:StAt w b pc xs ha hn) (r:Nat) (hr:r < 32):w.cell? ⟨b,1 + r,none⟩ = some (.int .u64 (rx xs r)):=h.x r hr
def adr (xs:List Int) (i:Td.Ins):Int:=IntKind.u64.wrap (rx xs i.r1 + IntKind.u64.wrap i.im)
theorem wrap_bd (x:Int):0 ≤ IntKind.u64.wrap x∧IntKind.u64.wrap x < 18446744073709551616:=by rw [IntKind.wrap_u64];omega
theorem place_any {w:World} {b:Nat} {pc ha hn:Int} {xs:List Int} (h:StAt w b pc xs ha hn) (i:Td.Ins) (hr:0 ≤ i.r1∧i.r1 < 32) :
    Calls Tryz.prog 79 #[addr0 b,.agg i.cells] w fun e w'=>e = .returned (.int .u64 (adr xs i))∧Bl w w':=by
  obtain ⟨op,rd,r1,r2,im,od,sz⟩:=i
  simp only at hr
  obtain ⟨r,rfl⟩:=Int.eq_ofNat_of_zero_le hr.1
  have hr':r < 32:=by omega
  have K0:=hid (Bl.new w (.cells (Td.I7 op rd r r2 im od sz) 38))
  have H0:=hid (h.bl K0.out)
  have B0:=hid (heap_alloc_new w (.cells (Td.I7 op rd r r2 im od sz) 38))
  clear h
  unfold addr0
  go_enter Tryz.func79,Tryz.ntmps79
  go_upto_region 1 with (fail)
  generalize w.alloc (.cells (Td.I7 op rd r r2 im od sz) 38) = W at *
  obtain ⟨d0,d1,d2,d3,d4,d5,d6⟩:=seven_at B0.out
  have c0:=H0.out.rx r hr'
  go_region
  all_goals (
    (try go_wp2_with fail)
    (try simp only [Exit.inBlock,Exit.then])
    go_ret
    exact ⟨rfl,K0.out.drew⟩)
theorem jump_any {w:World} {b:Nat} {pc ha hn:Int} {xs:List Int} (h:StAt w b pc xs ha hn) (hR:Regs xs) (r:Int) (hr:0 ≤ r∧r < 32) (y:Int) :
    Calls Tryz.prog 78 #[addr0 b,.int .i64 r,.int .u64 y] w fun e w'=>e = .returned (.tuple #[])∧StAt w' b y (setX xs r pc) ha hn∧Fr (only b) w w'∧w'.heap.size = w.heap.size:=by
  have c0:=h.pc_
  have cp:=put_any h hR r hr pc
  have CP:=hid cp;clear cp
  clear h
  unfold addr0 at *
  go_enter Tryz.func78,Tryz.ntmps78
  go_wp2_with fail
  with_reducible refine CP.out.mono ?_
  rintro e w1 ⟨rfl,h1,f1,s1⟩
  have c1:=h1.pc_
  have z1:=h1.free 0
  have H1:=hid h1;clear h1
  have F1:=hid f1;clear f1
  have S1:=hid s1;clear s1 c0
  go_wp2_with fail
  refine bodyPost_end (results_none rfl _ _ _) rfl ?_
  exact ⟨rfl,H1.out.setPc y,F1.out.trans (Fr.set (S:=only b) (p:=⟨b,0,none⟩) rfl _),by simpa [World.setCell] using S1.out⟩
def brPc (xs:List Int) (i:Td.Ins) (pc here:Int):Int:=if takenV i.op (rx xs i.r1) (rx xs i.r2) = true then IntKind.u64.wrap (here + IntKind.u64.wrap i.im) else pc
theorem branch_any {w:World} {b:Nat} {pc ha hn here:Int} {xs:List Int} (h:StAt w b pc xs ha hn) (i:Td.Ins) (ho:5 ≤ i.op∧i.op ≤ 10) (hr:0 ≤ i.r1∧i.r1 < 32) (hr2:0 ≤ i.r2∧i.r2 < 32) :
    Calls Tryz.prog 81 #[addr0 b,.agg i.cells,.int .u64 here] w fun e w'=>e = .returned (.tuple #[])∧StAt w' b (brPc xs i pc here) xs ha hn∧Fr (only b) w w':=by
  obtain ⟨op,rd,r1,r2,im,od,sz⟩:=i
  simp only at hr hr2 ho
  obtain ⟨r,rfl⟩:=Int.eq_ofNat_of_zero_le hr.1
  obtain ⟨s,rfl⟩:=Int.eq_ofNat_of_zero_le hr2.1
  have hr':r < 32:=by omega
  have hs':s < 32:=by omega
  have K0:=hid (Bl.new w (.cells (Td.I7 op rd r s im od sz) 38))
  have H0:=hid (h.bl K0.out)
  have B0:=hid (heap_alloc_new w (.cells (Td.I7 op rd r s im od sz) 38))
  have ct:=fun W=>taken_yes op (rx xs r) (rx xs s) W (by simp only [takenOps,List.mem_cons,List.not_mem_nil,or_false];omega)
  have CT:=hid ct;clear ct
  obtain ⟨q,hq⟩:∃ q,q = takenV op (rx xs r) (rx xs s):=⟨_,rfl⟩
  rw [← hq] at CT
  have e1:brPc xs ⟨op,rd,r,s,im,od,sz⟩ pc here = if q = true then IntKind.u64.wrap (here + IntKind.u64.wrap im) else pc:=by unfold brPc;rw [hq]
  rw [e1]
  clear h e1 ho
  have HQ:=hid hq;clear hq
  unfold addr0
  go_enter Tryz.func81,Tryz.ntmps81
  go_upto_region 1 with (fail)
  generalize w.alloc (.cells (Td.I7 op rd r s im od sz) 38) = W at *
  obtain ⟨d0,d1,d2,d3,d4,d5,d6⟩:=seven_at B0.out
  have c0:=H0.out.rx r hr'
  have c1:=H0.out.rx s hs'
  go_quiet ((go_at_call 125;exact Calls.quiet_of_same ((CT.out _).mono fun _ _ h=>⟨h.1,h.2.symm⟩)))
  have K1:=hid (K0.out.drewN nq)
  have H1:=hid (H0.out.bl ((Bl.refl W).drewN nq))
  have d4':(W.drewN nq).cell? ⟨w.heap.size,4,none⟩ = some (.int .i64 im):=by simpa using d4
  clear K0 H0 B0 d0 d1 d2 d3 d4 d5 d6 c0 c1 CT
  generalize W.drewN nq = V at *
  have c2:=H1.out.pc_
  have z2:=H1.out.free 0
  (try simp only [Exit.inBlock,Exit.then])
  cases q
  · clear HQ
    go_wp2_with fail
    refine bodyPost_end (results_none rfl _ _ _) rfl ?_
    exact ⟨rfl,H1.out,Fr.of_bl K1.out⟩
  · clear HQ
    go_wp2_with fail
    refine bodyPost_end (results_none rfl _ _ _) rfl ?_
    exact ⟨rfl,H1.out.setPc _,(Fr.of_bl K1.out).trans (Fr.set (S:=only b) (p:=⟨b,0,none⟩) rfl _)⟩
def doA (op a b:Int):Int:=if op ∈ doOps then doV op a b else 0
def recV (xs:List Int) (i:Td.Ins):Int:=doA i.op (rx xs i.r1) (if immOp i.op then IntKind.u64.wrap i.im else rx xs i.r2)
theorem doA_any (op a b:Int) (w:World) (ha:0 ≤ a∧a < 18446744073709551616) (hb:0 ≤ b∧b < 18446744073709551616) :
    Calls Tryz.prog 134 #[.int .i64 op,.int .u64 a,.int .u64 b] w fun e w'=>e = .returned (.tuple #[.int .u64 (doA op a b),.bool (decide (op ∈ doOps))])∧w = w':=by
  unfold doA
  by_cases h:op ∈ doOps
  · rw [if_pos h,decide_eq_true h]
    exact do_yes op a b w h ha.1 ha.2 hb.1 hb.2
  · rw [if_neg h,decide_eq_false h]
    exact do_no op a b w h
theorem reckon_any {w:World} {b:Nat} {pc ha hn:Int} {xs:List Int} (h:StAt w b pc xs ha hn) (hR:Regs xs) (i:Td.Ins) (hd:0 ≤ i.rd∧i.rd < 32) (hr:0 ≤ i.r1∧i.r1 < 32) (hr2:0 ≤ i.r2∧i.r2 < 32) :
    Calls Tryz.prog 88 #[addr0 b,.agg i.cells] w fun e w'=>e = .returned (.tuple #[])∧StAt w' b pc (setX xs i.rd (recV xs i)) ha hn∧Fr (only b) w w':=by
  obtain ⟨op,rd,r1,r2,im,od,sz⟩:=i
  simp only at hr hr2 hd
  obtain ⟨r,rfl⟩:=Int.eq_ofNat_of_zero_le hr.1
  obtain ⟨s,rfl⟩:=Int.eq_ofNat_of_zero_le hr2.1
  have hr':r < 32:=by omega
  have hs':s < 32:=by omega
  have K0:=hid (Bl.new w (.cells (Td.I7 op rd r s im od sz) 38))
  have H0:=hid (h.bl K0.out)
  have B0:=hid (heap_alloc_new w (.cells (Td.I7 op rd r s im od sz) 38))
  have bx:=hR.rx r
  have by_:=hR.rx s
  have bw:=wrap_bd im
  have CI:=hid (fun W=>takesImm_any op W)
  have CX:=hid (fun W=>doA_any op (rx xs r) (rx xs s) W bx by_)
  have CM:=hid (fun W=>doA_any op (rx xs r) (IntKind.u64.wrap im) W bx bw)
  have CP:=hid (fun V y (g:StAt V b pc xs ha hn)=>put_any g hR rd hd y)
  obtain ⟨q,hq⟩:∃ q,q = decide (op ∈ doOps):=⟨_,rfl⟩
  rw [← hq] at CX CM
  obtain ⟨y,hy⟩:∃ y,y = recV xs ⟨op,rd,r,s,im,od,sz⟩:=⟨_,rfl⟩
  rw [← hy]
  unfold recV at hy
  simp only at hy
  obtain ⟨t,ht⟩:∃ t,t = decide (immOp op):=⟨_,rfl⟩
  rw [← ht] at CI
  have hz:Hid ((t = true∧y = doA op (rx xs r) (IntKind.u64.wrap im)) ∨ (t = false∧y = doA op (rx xs r) (rx xs s))):=hid (by
    by_cases hi:immOp op
    · exact .inl ⟨by rw [ht];exact decide_eq_true hi,by rw [hy,if_pos hi]⟩
    · exact .inr ⟨by rw [ht];exact decide_eq_false hi,by rw [hy,if_neg hi]⟩)
  clear h hR hy hq bx by_ bw ht
  unfold addr0 at *
  rcases hz.out with ⟨rfl,e2⟩ | ⟨rfl,e2⟩
  · rw [← e2] at CM
    have CD:=CM;clear hz CM CX e2
    go_enter Tryz.func88,Tryz.ntmps88
    go_upto_region 1 with (fail)
    generalize w.alloc (.cells (Td.I7 op rd r s im od sz) 38) = W at *
    obtain ⟨d0,d1,d2,d3,d4,d5,d6⟩:=seven_at B0.out
    have c0:=H0.out.rx r hr'
    have c1:=H0.out.rx s hs'
    go_quiet (fail)
    have K1:=hid (K0.out.drewN nq)
    have H1:=hid (H0.out.bl ((Bl.refl W).drewN nq))
    have B1:=hid (((Bl.refl W).drewN nq).at_ B0.out)
    clear K0 H0 B0 d0 d1 d2 d3 d4 d5 d6 c0 c1
    generalize W.drewN nq = V at *
    obtain ⟨d0,d1,d2,d3,d4,d5,d6⟩:=seven_at B1.out
    have c0:=H1.out.rx r hr'
    (try simp only [Exit.inBlock,Exit.then])
    go_upto_region 4 with (go_at_call 133;with_reducible refine (CI.out _).mono ?_;rintro e w1 ⟨rfl,rfl⟩)
    go_quiet ((go_at_call 134;exact Calls.quiet_of_same ((CD.out _).mono fun _ _ h=>⟨h.1,h.2.symm⟩)))
    have K2:=hid (K1.out.drewN nq)
    have H2:=hid (H1.out.bl ((Bl.refl V).drewN nq))
    have d1':(V.drewN nq).cell? ⟨w.heap.size,1,none⟩ = some (.int .i64 rd):=by simpa using d1
    clear K1 H1 B1 d0 d1 d2 d3 d4 d5 d6 c0
    generalize V.drewN nq = U at *
    (try simp only [Exit.inBlock,Exit.then])
    go_wp2_with fail
    with_reducible refine (CP.out _ _ H2.out).mono ?_
    rintro e w1 ⟨rfl,h1,f1,s1⟩
    go_wp2_with fail
    refine bodyPost_end (results_none rfl _ _ _) rfl ?_
    exact ⟨rfl,h1,(Fr.of_bl K2.out).trans f1⟩
  · rw [← e2] at CX
    have CD:=CX;clear hz CM CX e2
    go_enter Tryz.func88,Tryz.ntmps88
    go_upto_region 1 with (fail)
    generalize w.alloc (.cells (Td.I7 op rd r s im od sz) 38) = W at *
    obtain ⟨d0,d1,d2,d3,d4,d5,d6⟩:=seven_at B0.out
    have c0:=H0.out.rx r hr'
    have c1:=H0.out.rx s hs'
    go_quiet (fail)
    have K1:=hid (K0.out.drewN nq)
    have H1:=hid (H0.out.bl ((Bl.refl W).drewN nq))
    have B1:=hid (((Bl.refl W).drewN nq).at_ B0.out)
    clear K0 H0 B0 d0 d1 d2 d3 d4 d5 d6 c0 c1
    generalize W.drewN nq = V at *
    obtain ⟨d0,d1,d2,d3,d4,d5,d6⟩:=seven_at B1.out
    have c0:=H1.out.rx r hr'
    (try simp only [Exit.inBlock,Exit.then])
    go_upto_region 4 with (go_at_call 133;with_reducible refine (CI.out _).mono ?_;rintro e w1 ⟨rfl,rfl⟩)
    go_quiet ((go_at_call 134;exact Calls.quiet_of_same ((CD.out _).mono fun _ _ h=>⟨h.1,h.2.symm⟩)))
    have K2:=hid (K1.out.drewN nq)
    have H2:=hid (H1.out.bl ((Bl.refl V).drewN nq))
    have d1':(V.drewN nq).cell? ⟨w.heap.size,1,none⟩ = some (.int .i64 rd):=by simpa using d1
    clear K1 H1 B1 d0 d1 d2 d3 d4 d5 d6 c0
    generalize V.drewN nq = U at *
    (try simp only [Exit.inBlock,Exit.then])
    go_wp2_with fail
    with_reducible refine (CP.out _ _ H2.out).mono ?_
    rintro e w1 ⟨rfl,h1,f1,s1⟩
    go_wp2_with fail
    refine bodyPost_end (results_none rfl _ _ _) rfl ?_
    exact ⟨rfl,h1,(Fr.of_bl K2.out).trans f1⟩
end Go.Proofs.YtlhpodholnfppaaGreatDoor

namespace Go.Proofs.YtlhpodholnfppaaGreatDoor
open Go.RowKit
set_option maxRecDepth 100000
structure St where
  pc:Int
  xs:List Int
  ha:Int
  hn:Int
def St.rest (s:St):St:=⟨s.pc,s.xs,0,0⟩
def St.nxt (s:St) (i:Td.Ins):Int:=IntKind.u64.wrap (s.pc + IntKind.u64.wrap i.sz)
def loadV (op y:Int):Int:=if op ≤ 14 then sextI y (8 * (lwid op:Int)) else y
inductive DoIs (L:List Rg) (M:Nat → Int) (s:St) (i:Td.Ins):Int → Int → Int → St → (Nat → Int) → Prop
  | ecall:i.op = 87 → DoIs L M s i 1 0 0 s.rest M
  | ebreak:i.op = 88 → DoIs L M s i 2 0 0 s.rest M
  | fence:i.op = 85 ∨ i.op = 86 → DoIs L M s i 0 0 0 ⟨s.nxt i,s.xs,s.ha,s.hn⟩ M
  | auipc:i.op = 2 → DoIs L M s i 0 0 0 ⟨s.nxt i,setX s.xs i.rd (IntKind.u64.wrap (s.pc + IntKind.u64.wrap i.im)),s.ha,s.hn⟩ M
  | jal:i.op = 3 → DoIs L M s i 0 0 0 ⟨IntKind.u64.wrap (s.pc + IntKind.u64.wrap i.im),setX s.xs i.rd (s.nxt i),s.ha,s.hn⟩ M
  | jalr:i.op = 4 → DoIs L M s i 0 0 0 ⟨adr s.xs i / 2 * 2,setX s.xs i.rd (s.nxt i),s.ha,s.hn⟩ M
  | branch:5 ≤ i.op∧i.op ≤ 10 → DoIs L M s i 0 0 0 ⟨brPc s.xs i (s.nxt i) s.pc,s.xs,s.ha,s.hn⟩ M
  | loadBad (z:Int):11 ≤ i.op∧i.op ≤ 17 → FirstAt L 1 (adr s.xs i) (lwid i.op) z → DoIs L M s i 4 1 z s.rest M
  | loadOk:11 ≤ i.op∧i.op ≤ 17 → AllCan L 1 (adr s.xs i) (lwid i.op) → DoIs L M s i 0 0 0 ⟨s.nxt i,setX s.xs i.rd (loadV i.op (numAt M (adr s.xs i).toNat (lwid i.op))),s.ha,s.hn⟩ M
  | storeBad (z:Int):18 ≤ i.op∧i.op ≤ 21 → FirstAt L 2 (adr s.xs i) (swid i.op) z → DoIs L M s i 4 2 z s.rest M
  | storeOk:18 ≤ i.op∧i.op ≤ 21 → AllCan L 2 (adr s.xs i) (swid i.op) → DoIs L M s i 0 0 0 ⟨s.nxt i,s.xs,s.ha,s.hn⟩ (lay M (adr s.xs i).toNat (putB (rx s.xs i.r2) (swid i.op)))
  | atomBad (o:Out) (M':Nat → Int):63 ≤ i.op∧i.op ≤ 84 → StepIs L M s.ha s.hn i.op (rx s.xs i.r1).toNat (rx s.xs i.r2) o M' → o.k ≠ 0 → DoIs L M s i o.k o.fk o.fa s.rest M'
  | atomOk (o:Out) (M':Nat → Int):63 ≤ i.op∧i.op ≤ 84 → StepIs L M s.ha s.hn i.op (rx s.xs i.r1).toNat (rx s.xs i.r2) o M' → o.k = 0 → DoIs L M s i 0 o.fk o.fa ⟨s.nxt i,setX s.xs i.rd o.y,o.ta,o.tn⟩ M'
  | reck:i.op = 1 ∨ (22 ≤ i.op∧i.op ≤ 62) ∨ i.op ≤ 0 ∨ 88 < i.op → DoIs L M s i 0 0 0 ⟨s.nxt i,setX s.xs i.rd (recV s.xs i),s.ha,s.hn⟩ M
theorem DoIs.one {L:List Rg} {M:Nat → Int} {s:St} {i:Td.Ins} {k fk fa k' fk' fa':Int} {s1 s2:St} {M1 M2:Nat → Int} (h:DoIs L M s i k fk fa s1 M1) (g:DoIs L M s i k' fk' fa' s2 M2) :
    k = k'∧fk = fk'∧fa = fa'∧s1 = s2∧M1 = M2:=by
  cases h with
  | ecall h=>cases g <;> first | exact ⟨rfl,rfl,rfl,rfl,rfl⟩ | omega
  | ebreak h=>cases g <;> first | exact ⟨rfl,rfl,rfl,rfl,rfl⟩ | omega
  | fence h=>cases g <;> first | exact ⟨rfl,rfl,rfl,rfl,rfl⟩ | omega
  | auipc h=>cases g <;> first | exact ⟨rfl,rfl,rfl,rfl,rfl⟩ | omega
  | jal h=>cases g <;> first | exact ⟨rfl,rfl,rfl,rfl,rfl⟩ | omega
  | jalr h=>cases g <;> first | exact ⟨rfl,rfl,rfl,rfl,rfl⟩ | omega
  | branch h=>cases g <;> first | exact ⟨rfl,rfl,rfl,rfl,rfl⟩ | omega
  | reck h=>cases g <;> first | exact ⟨rfl,rfl,rfl,rfl,rfl⟩ | omega
  | loadBad z h hf=>cases g with
    | loadBad z' h' hf'=>obtain rfl:=hf.one hf';exact ⟨rfl,rfl,rfl,rfl,rfl⟩
    | loadOk h' hf'=>exact absurd hf' hf.not
    | _=>omega
  | loadOk h hf=>cases g with
    | loadBad z' h' hf'=>exact absurd hf hf'.not
    | loadOk h' hf'=>exact ⟨rfl,rfl,rfl,rfl,rfl⟩
    | _=>omega
  | storeBad z h hf=>cases g with
    | storeBad z' h' hf'=>obtain rfl:=hf.one hf';exact ⟨rfl,rfl,rfl,rfl,rfl⟩
    | storeOk h' hf'=>exact absurd hf' hf.not
    | _=>omega
  | storeOk h hf=>cases g with
    | storeBad z' h' hf'=>exact absurd hf hf'.not
    | storeOk h' hf'=>exact ⟨rfl,rfl,rfl,rfl,rfl⟩
    | _=>omega
  | atomBad o N h hf hk=>cases g with
    | atomBad o' N' h' hf' hk'=>obtain ⟨rfl,rfl⟩:=hf.one hf';exact ⟨rfl,rfl,rfl,rfl,rfl⟩
    | atomOk o' N' h' hf' hk'=>obtain ⟨rfl,rfl⟩:=hf.one hf';exact absurd hk' hk
    | _=>omega
  | atomOk o N h hf hk=>cases g with
    | atomBad o' N' h' hf' hk'=>obtain ⟨rfl,rfl⟩:=hf.one hf';exact absurd hk hk'
    | atomOk o' N' h' hf' hk'=>obtain ⟨rfl,rfl⟩:=hf.one hf';exact ⟨rfl,rfl,rfl,rfl,rfl⟩
    | _=>omega
theorem bits_bd (op:BinOp) (hop:op = .xor ∨ op = .or ∨ op = .and) (a b:Int) (ha:0 ≤ a∧a < 18446744073709551616) (hb:0 ≤ b∧b < 18446744073709551616):0 ≤ bits op .u64 a b∧bits op .u64 a b < 18446744073709551616:=by
  obtain ⟨A,rfl⟩:=Int.eq_ofNat_of_zero_le ha.1
  obtain ⟨B,rfl⟩:=Int.eq_ofNat_of_zero_le hb.1
  have hA:A < 2 ^ 64:=by omega
  have hB:B < 2 ^ 64:=by omega
  rcases hop with rfl | rfl | rfl
  · rw [u64_xor_nat A B (by omega) (by omega)]
    have:=Nat.xor_lt_two_pow hA hB
    omega
  · rw [u64_or_nat A B (by omega) (by omega)]
    have:=Nat.or_lt_two_pow hA hB
    omega
  · rw [u64_and_nat A B (by omega) (by omega)]
    have:=Nat.and_lt_two_pow (n:=64) A hB
    omega
theorem doA_bd (op a b:Int) (ha:0 ≤ a∧a < 18446744073709551616) (hb:0 ≤ b∧b < 18446744073709551616):0 ≤ doA op a b∧doA op a b < 18446744073709551616:=by
  have s32:∀ x,0 ≤ sextI x 32∧sextI x 32 < 18446744073709551616:=fun x=>by
    unfold sextI;rw [if_pos (by omega)];exact sx_bd _ _
  unfold doA
  split
  · unfold doV
    split
    · unfold plainV
      repeat' split
      all_goals first | exact wrap_bd _ | (apply bits_bd <;> first | assumption | simp) | (unfold oneI;split <;> omega) | assumption | skip
    · split
      · unfold shiftV
        repeat' split
        all_goals first | exact wrap_bd _ | skip
        have hq:=quo_le a (2 ^ (b % 64).toNat) ha.1 (pow_pos' _)
        omega
      · split
        · unfold productV
          repeat' split
          · exact wrap_bd _
          · exact mulh_bd _ _
          · exact mulhsu_bd _ _
          · exact mulhu_bd _ _ ha.1 ha.2 hb.1 hb.2
        · split
          · unfold quotientV
            repeat' split
            · unfold divI;split
              · omega
              · exact wrap_bd _
            · unfold divuI;split
              · omega
              · have:=quo_le a b ha.1 (by omega);omega
            · unfold remI;split
              · omega
              · exact wrap_bd _
            · unfold remuI;split
              · omega
              · have h1:=Int.emod_nonneg a (show b ≠ 0 by assumption);have h2:=Int.emod_lt_of_pos a (show 0 < b by omega);omega
          · unfold narrowV;split <;> exact s32 _
  · omega
theorem recV_bd {xs:List Int} (h:Regs xs) (i:Td.Ins):0 ≤ recV xs i∧recV xs i < 18446744073709551616:=by
  unfold recV
  refine doA_bd _ _ _ (h.rx _) ?_
  split
  · exact wrap_bd _
  · exact h.rx _
theorem numAt_lt {M:Nat → Int} (h:∀ x,0 ≤ M x∧M x ≤ 255) (a n:Nat) (hn:n = 1 ∨ n = 2 ∨ n = 4 ∨ n = 8):0 ≤ numAt M a n∧numAt M a n < 18446744073709551616:=by
  have h1:=getS_bd (bytesAt M a n) (bytesAt_bd h a n) n
  unfold numAt
  rcases hn with rfl | rfl | rfl | rfl
  all_goals
    refine ⟨h1.1,?_⟩
    have h2:=h1.2
    have h3:(2:Int) ^ (8 * 8) = 18446744073709551616:=by decide
    have h4:(2:Int) ^ (8 * 4) = 4294967296:=by decide
    have h5:(2:Int) ^ (8 * 2) = 65536:=by decide
    have h6:(2:Int) ^ (8 * 1) = 256:=by decide
    omega
theorem StepIs.bd {L:List Rg} {M:Nat → Int} {ha hn op:Int} {a:Nat} {x:Int} {o:Out} {M':Nat → Int} (h:StepIs L M ha hn op a x o M') (hM:∀ x,0 ≤ M x∧M x ≤ 255):0 ≤ o.y∧o.y < 18446744073709551616:=by
  have hw:awid op = 0 ∨ awid op = 4 ∨ awid op = 8:=by
    rcases awid_iff op with h | h
    · exact .inl h.1
    · rcases (by omega:(63 ≤ op∧op ≤ 73) ∨ (74 ≤ op∧op ≤ 84)) with g | g
      · exact .inr (.inl (awid4 g))
      · exact .inr (.inr (awid8 g))
  have hs:0 ≤ sextI (numAt M a (awid op)) (8 * (awid op:Int))∧sextI (numAt M a (awid op)) (8 * (awid op:Int)) < 18446744073709551616:=by
    refine (fun (h:0 ≤ numAt M a (awid op)∧numAt M a (awid op) < 18446744073709551616)=>sextI_bd _ _ h.1 h.2) ?_
    rcases hw with hw | hw | hw
    · rw [hw,show numAt M a 0 = 0 from rfl];omega
    · exact numAt_lt hM _ _ (by omega)
    · exact numAt_lt hM _ _ (by omega)
  cases h <;> first | exact hs | (simp only [badO];omega) | (constructor <;> decide)
theorem DoIs.keep {L:List Rg} {M:Nat → Int} {s:St} {i:Td.Ins} {k fk fa:Int} {s1:St} {M1:Nat → Int} (h:DoIs L M s i k fk fa s1 M1) (hM:∀ x,0 ≤ M x∧M x ≤ 255) (hR:Regs s.xs) (hp:0 ≤ s.pc∧s.pc < 18446744073709551616) (hd:0 ≤ i.rd∧i.rd < 32) :
    Regs s1.xs∧0 ≤ s1.pc∧s1.pc < 18446744073709551616:=by
  have ha:0 ≤ adr s.xs i∧adr s.xs i < 18446744073709551616:=wrap_bd _
  have hn:0 ≤ s.nxt i∧s.nxt i < 18446744073709551616:=wrap_bd _
  cases h with
  | ecall h=>exact ⟨hR,hp⟩
  | ebreak h=>exact ⟨hR,hp⟩
  | fence h=>exact ⟨hR,hn⟩
  | auipc h=>exact ⟨hR.set _ _ hd (wrap_bd _),hn⟩
  | jal h=>exact ⟨hR.set _ _ hd hn,wrap_bd _⟩
  | jalr h=>exact ⟨hR.set _ _ hd hn,by simp only;omega⟩
  | branch h=>exact ⟨hR,by unfold brPc;split;exact wrap_bd _;exact hn⟩
  | loadBad z h hf=>exact ⟨hR,hp⟩
  | loadOk h hf =>
    refine ⟨hR.set _ _ hd ?_,hn⟩
    have:=numAt_lt hM (adr s.xs i).toNat (lwid i.op) (lwid_is _)
    unfold loadV
    split
    · exact sextI_bd _ _ this.1 this.2
    · exact this
  | storeBad z h hf=>exact ⟨hR,hp⟩
  | storeOk h hf=>exact ⟨hR,hn⟩
  | atomBad o N h hf hk=>exact ⟨hR,hp⟩
  | atomOk o N h hf hk=>exact ⟨hR.set _ _ hd (hf.bd hM),hn⟩
  | reck h=>exact ⟨hR.set _ _ hd (recV_bd hR i),hn⟩
end Go.Proofs.YtlhpodholnfppaaGreatDoor
