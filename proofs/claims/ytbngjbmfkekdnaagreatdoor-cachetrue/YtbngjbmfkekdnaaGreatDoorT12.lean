/-
  What a call leaves of the memory that was there: all of it, but perhaps one block. Blocks of a struct, of one cell.
  Contracts of the small functions of package inst: a run of bits, a number with a sign, what moves pieces out of a word.
  Contracts of the reference's small functions: bits of a word, a number with a sign, a place in a list.
  A region that draws its order, whose last operations wait for all the others: the head in whatever order, loads first, then the tail as it stands. No program in sight.
  Contracts of the forms' helpers that lay pieces into a word.
  What a form holds while it runs: its own instruction, its result, and what moves pieces.
-/
import Derived.Test.YtbngjbmfkekdnaaGreatDoorRows
import Derived.Test.YtbngjbmfkekdnaaGreatDoorT0
import Derived.WalkKit
import Derived.WalkSpells
import Derived.WalkLawsBesides
import Derived.Lib.Hide
import Derived.Deep.Draws
import Derived.Below
import Derived.Deep.QuietTactic
import Derived.BigQuiet
import Derived.StillTail
import Derived.OrdersHeld
import Derived.Deep.RegionHeld
set_option linter.unusedVariables false
set_option linter.unusedSimpArgs false
set_option maxHeartbeats 16000000
open Go.Lib (hid)
namespace Go.Proofs.YtbngjbmfkekdnaaGreatDoor.Td
open Go.RowKit

structure Kp (o:Option Nat) (w w':World):Prop where
  os:w'.os = w.os
  tape:w'.tape = w.tape
  output:w'.output = w.output
  size:w.heap.size ≤ w'.heap.size
  frozen:∀ a,w'.frozen? a = w.frozen? a
  block:∀ k,k < w.heap.size → some k ≠ o → w'.heap[k]? = w.heap[k]?

theorem Kp.refl (o:Option Nat) (w:World):Kp o w w:=⟨rfl,rfl,rfl,Nat.le_refl _,fun _=>rfl,fun _ _ _=>rfl⟩
theorem Kp.trans {o:Option Nat} {a b c:World} (h:Kp o a b) (k:Kp o b c):Kp o a c:=
  ⟨k.os.trans h.os,k.tape.trans h.tape,k.output.trans h.output,Nat.le_trans h.size k.size,fun x=>(k.frozen x).trans (h.frozen x),
   fun i hi hn=>(k.block i (Nat.lt_of_lt_of_le hi h.size) hn).trans (h.block i hi hn)⟩
theorem Kp.drew {o:Option Nat} {a w:World} (h:Kp o a w):Kp o a w.drew:=⟨h.os,h.tape,h.output,h.size,h.frozen,h.block⟩
theorem Kp.drewN {o:Option Nat} {a w:World} (h:Kp o a w) (n:Nat):Kp o a (w.drewN n):=⟨h.os,h.tape,h.output,h.size,h.frozen,h.block⟩
theorem Kp.alloc {o:Option Nat} {a w:World} (h:Kp o a w) (c:Array Value) (t:TypeId):Kp o a (w.alloc (.cells c t)):=
  h.trans ⟨rfl,rfl,rfl,by simp,fun x=>frozen?_alloc_cells _ _ _ x,fun k hk _=>Below.heap_alloc _ _ _ hk⟩
theorem Kp.setCell {o:Option Nat} {a w:World} (h:Kp o a w) {p:Addr} (hp:a.heap.size ≤ p.block ∨ some p.block = o) (u:Value):Kp o a (w.setCell p u):=
  ⟨h.os,h.tape,h.output,by simpa [World.setCell] using h.size,fun x=>(World.frozen?_setCell _ _ _ _).trans (h.frozen x),
   fun k hk hn => (Below.heap_setCell _ _ _ _ (fun e => by subst e; rcases hp with hp | hp; · omega
                                                           · exact hn hp)).trans (h.block k hk hn)⟩
theorem Kp.drop {o:Option Nat} {a b c:World} (h:Kp none a b) (k:Kp o b c) (ho:∀ i,o = some i → a.heap.size ≤ i):Kp none a c:=
  ⟨k.os.trans h.os,k.tape.trans h.tape,k.output.trans h.output,Nat.le_trans h.size k.size,fun x=>(k.frozen x).trans (h.frozen x),
   fun i hi _=>(k.block i (Nat.lt_of_lt_of_le hi h.size) (fun e=>by have:=ho i e.symm;omega)).trans (h.block i hi (by simp))⟩
theorem Kp.keeps {o:Option Nat} {w w':World} (h:Kp o w w') {k:Nat} {b:Obj} (hb:w.heap[k]? = some b) (hn:some k ≠ o):w'.heap[k]? = some b:=by
  have hlt:k < w.heap.size:=by
    rcases Nat.lt_or_ge k w.heap.size with h | h
    · exact h
    · rw [Array.getElem?_eq_none h] at hb;cases hb
  rw [h.block k hlt hn];exact hb
theorem lt_of_at {w:World} {k:Nat} {b:Obj} (hb:w.heap[k]? = some b):k < w.heap.size:=by
  rcases Nat.lt_or_ge k w.heap.size with h | h
  · exact h
  · rw [Array.getElem?_eq_none h] at hb;cases hb

def Has (w:World) (b:Nat) (t:TypeId) (cs:Array Value):Prop:=w.heap[b]? = some (.cells cs t (0,0))
theorem Has.lt {w:World} {b:Nat} {t:TypeId} {cs:Array Value} (h:Has w b t cs):b < w.heap.size:=lt_of_at h
theorem Has.cell {w:World} {b:Nat} {t:TypeId} {cs:Array Value} (h:Has w b t cs) (i:Nat):w.cell? ⟨b,i,none⟩ = cs[i]?:=by
  have h':w.heap[b]? = some (.cells cs t (0,0)):=h
  simp [World.cell?,h']
theorem Has.free {w:World} {b:Nat} {t:TypeId} {cs:Array Value} (h:Has w b t cs) (i:Nat):w.frozen? ⟨b,i,none⟩ = false:=by
  have h':w.heap[b]? = some (.cells cs t (0,0)):=h
  simp [World.frozen?,h']
theorem Has.kp {o:Option Nat} {w w':World} {b:Nat} {t:TypeId} {cs:Array Value} (h:Has w b t cs) (k:Kp o w w') (hn:some b ≠ o):Has w' b t cs:=k.keeps h hn
theorem Has.drew {w:World} {b:Nat} {t:TypeId} {cs:Array Value} (h:Has w b t cs):Has w.drew b t cs:=h
theorem Has.new (w:World) (c:Array Value) (t:TypeId):Has (w.alloc (.cells c t)) w.heap.size t c:=(MapKept.heap_alloc w _).1
theorem Has.alloc {w:World} {b:Nat} {t:TypeId} {cs:Array Value} (h:Has w b t cs) (o:Obj):Has (w.alloc o) b t cs:=(Below.heap_alloc _ _ _ h.lt).trans h
theorem Has.other {w:World} {b:Nat} {t:TypeId} {cs:Array Value} (h:Has w b t cs) {p:Addr} (hp:b ≠ p.block) (u:Value):Has (w.setCell p u) b t cs:=(Below.heap_setCell _ _ _ _ hp).trans h
theorem Has.set {w:World} {b:Nat} {t:TypeId} {cs:Array Value} (h:Has w b t cs) (i:Nat) (u:Value):Has (w.setCell ⟨b,i,none⟩ u) b t (cs.setIfInBounds i u):=by
  have h':w.heap[b]? = some (.cells cs t (0,0)):=h
  show (w.setCell ⟨b,i,none⟩ u).heap[b]? = _
  simp only [World.setCell,Array.getElem?_modify,if_pos,h',Option.map_some]
  simp
end Go.Proofs.YtbngjbmfkekdnaaGreatDoor.Td

namespace Go.Proofs.YtbngjbmfkekdnaaGreatDoor.Td
open Go.RowKit

theorem ret_int {k:IntKind} {a b:Int} (h:a = b):Ending.returned (.int k a) = .returned (.int k b):=by rw [h]
theorem sext_in (x:Int) (n:Nat) (w:World) (h1:(1:Int) ≤ n) (h2:(n:Int) ≤ 64) :
    Calls Tryz.prog 163 #[.int .u64 x,.int .i64 n] w fun e w'=>e = .returned (.int .u64 (sx x n))∧w = w':=by
  have hs:=hid (shifts x n (by omega) (by omega))
  go_enter Tryz.func163,Tryz.ntmps163
  go_wp2
  go_ret
  exact ⟨ret_int (by rw [hs.out]),rfl⟩

def pc (s a m:Nat):Nat:=s / 2 ^ a % 2 ^ m
theorem pc_lt (s a m:Nat):pc s a m < 2 ^ m:=Nat.mod_lt _ (Nat.two_pow_pos m)
theorem pc_le (s a m:Nat) (hs:s < 4294967296):pc s a m < 4294967296:=Nat.lt_of_le_of_lt (Nat.le_trans (Nat.mod_le _ _) (Nat.div_le_self _ _)) hs

theorem piece_any (s a m:Nat) (w:World) (hs:s < 4294967296) (ha:a ≤ 31) (hm:m ≤ 20) :
    Calls Tryz.prog 124 #[.int .u32 s,.int .i64 a,.int .i64 m] w fun e w'=>e = .returned (.int .u32 (pc s a m))∧∃ k,w' = w.drewN k:=by
  have h0:(0:Int) ≤ (a:Int):=by omega
  have h1:(0:Int) ≤ (m:Int):=by omega
  go_enter Tryz.func124,Tryz.ntmps124
  go_wp2_with fail
  go_quiet (fail)
  go_wp2
  go_ret
  refine ⟨ret_int ?_,_,rfl⟩
  have hp:0 < 2 ^ m:=Nat.two_pow_pos m
  have hp2:2 ^ m ≤ 2 ^ 20:=Nat.pow_le_pow_right (by decide) hm
  have e1:((2:Int) ^ m - 1) % 4294967296 = ((2 ^ m - 1:Nat):Int):=by
    rw [Int.natCast_sub hp,Int.natCast_pow]
    exact Int.emod_eq_of_lt (by have:=pow_pos' m;omega) (by have:(2:Int) ^ m ≤ 2 ^ 20:=(by exact_mod_cast hp2);omega)
  have e2:(s:Int) / 2 ^ a = ((s / 2 ^ a:Nat):Int):=by simp
  rw [e1,e2,u32_and_nat _ _ (Nat.lt_of_le_of_lt (Nat.div_le_self _ _) hs) (by omega),Nat.and_two_pow_sub_one_eq_mod]
  rfl

theorem taker_any (s:Nat) (w:World):Calls Tryz.prog 116 #[.int .u32 s] w fun e w'=>e = .returned (.func (.func 138) #[] #[.pointer (some ⟨w.heap.size,0,none⟩)])∧Has w' w.heap.size 37 #[.int .u32 s]∧Kp none w w':=by
  have hmf:∀ (fn:Fn) (first cap:Array Value) (w:World),(Instr.makeFunc fn first cap).run Tryz.prog w = .ok (.func fn first cap) w:=fun _ _ _ _=>rfl
  go_enter Tryz.func116,Tryz.ntmps116
  go_wp2
  go_ret
  exact ⟨rfl,Has.new _ _ _,(Kp.refl _ _).alloc _ _⟩

theorem shl_pc (s a m k:Nat) (hm:m + k ≤ 33):wrap64 (((pc s a m:Nat):Int) * 2 ^ k) = ((pc s a m * 2 ^ k:Nat):Int):=by
  have h1:=pc_lt s a m
  have h2:pc s a m * 2 ^ k < 2 ^ 33:=by
    calc pc s a m * 2 ^ k < 2 ^ m * 2 ^ k:=Nat.mul_lt_mul_of_pos_right h1 (Nat.two_pow_pos k)
      _ = 2 ^ (m + k):=(Nat.pow_add 2 m k).symm
      _ ≤ 2 ^ 33:=Nat.pow_le_pow_right (by decide) hm
  have e:((pc s a m:Nat):Int) * 2 ^ k = ((pc s a m * 2 ^ k:Nat):Int):=by simp
  rw [e]
  generalize pc s a m * 2 ^ k = t at *
  unfold wrap64;omega

def tk (s a m k:Nat):Int:=(pc s a m * 2 ^ k:Nat)
theorem take_any (n:Int) (s a m k c:Nat) (w:World) (hs:s < 4294967296) (ha:a ≤ 31) (hm:m ≤ 20) (hk:k ≤ 20) (hmk:m + k ≤ 33) (hc:Has w c 37 #[.int .u32 s]) :
    Calls Tryz.prog 138 #[.int .i64 n,.int .i64 a,.int .i64 m,.int .i64 k,.pointer (some ⟨c,0,none⟩)] w fun e w'=>e = .returned (.int .i64 (tk s a m k))∧Kp none w w':=by
  have h0:(0:Int) ≤ (k:Int):=by omega
  have c0:=hc.cell 0
  simp at c0
  have hl:=hid (shl_pc s a m k hmk)
  go_enter Tryz.func138,Tryz.ntmps138
  go_wp2_with fail
  refine (piece_any s a m _ hs ha hm).mono ?_
  rintro e w' ⟨rfl,q,rfl⟩
  have hb:=pc_le s a m hs
  go_wp2
  go_ret
  exact ⟨ret_int hl.out,(Kp.refl _ _).drewN _⟩

theorem sx_back (n:Int) (b:Nat) (h1:1 ≤ b) (h2:b ≤ 64):wrap64 (sx (IntKind.u64.wrap n) b) = low n b:=by
  have e:low (IntKind.u64.wrap n) b = low n b:=by
    obtain ⟨q,hq⟩:=low_eq n b
    refine low_unique _ _ (q + 2 ^ (64 - b) * (-(n / 18446744073709551616))) b h1 ?_ (low_lo n b) (low_hi n b h1)
    rw [Int.mul_add,← Int.mul_assoc,Int.mul_comm (2 ^ b) (2 ^ (64 - b)),pow64 b h2,IntKind.wrap_u64]
    omega
  have hm:=(low_mono b 64 h1 h2).1
  have hl:=low_lo n b
  have hh:=low_hi n b h1
  simp at hm
  unfold sx;rw [e];unfold wrap64
  omega
theorem signed_any (n:Int) (b:Nat) (w:World) (h1:(1:Int) ≤ b) (h2:(b:Int) ≤ 64) :
    Calls Tryz.prog 156 #[.int .i64 n,.int .i64 b] w fun e w'=>e = .returned (.int .i64 (low n b))∧w = w':=by
  go_enter Tryz.func156,Tryz.ntmps156
  go_wp2_with fail
  refine (sext_in _ b _ h1 h2).mono ?_
  rintro e w' ⟨rfl,rfl⟩
  go_wp2
  go_ret
  exact ⟨ret_int (sx_back n b (by omega) (by omega)),rfl⟩

end Go.Proofs.YtbngjbmfkekdnaaGreatDoor.Td

namespace Go.Proofs.YtbngjbmfkekdnaaGreatDoor.Td
open Go.RowKit

theorem pc_step (s j k:Nat):pc s (j + 1) k * 2 + s / 2 ^ j % 2 = pc s j (k + 1):=by
  unfold pc
  have e1:s / 2 ^ (j + 1) = s / 2 ^ j / 2:=by rw [Nat.pow_succ,Nat.div_div_eq_div_mul]
  have e2:(2:Nat) ^ (k + 1) = 2 * 2 ^ k:=by rw [Nat.pow_succ,Nat.mul_comm]
  rw [e1,e2,Nat.mod_mul]
  generalize s / 2 ^ j = t
  generalize t / 2 % 2 ^ k = u
  omega
theorem pc_zero (s j:Nat):pc s j 0 = 0:=by unfold pc;simp [Nat.mod_one]

theorem F_add (p t:Nat) (hp:p < 4294967296):wrap64 ((p:Int) * 2 + wrap64 ((t:Int).tmod 2)) = ((p * 2 + t % 2:Nat):Int):=by
  have e3:((t:Int)).tmod 2 = ((t % 2:Nat):Int):=by rw [Int.tmod_eq_emod_of_nonneg (by omega)];simp
  rw [e3]
  unfold wrap64
  omega

theorem F_any (s hi lo:Nat) (w:World) (hs:s < 4294967296) (h1:lo ≤ hi) (h2:hi ≤ 31) :
    Calls Tryz.prog 85 #[.int .u32 s,.int .i64 hi,.int .i64 lo] w fun e w'=>e = .returned (.int .i64 (pc s lo (hi + 1 - lo)))∧w = w':=by
  go_enter Tryz.func85,Tryz.ntmps85
  go_wp2
  go_loop [7,8] (fun n i=>∃ k:Nat,k ≤ hi + 1 - lo∧i = .int .i64 ((hi:Int) - k)∧n = .int .i64 (pc s (hi + 1 - k) k)) (fun n i=>(intOf i + 1).toNat)
  case atStart=>exact ⟨0,by omega,by simp,by rw [pc_zero];rfl⟩
  case round =>
    obtain ⟨k,hk,rfl,rfl⟩:=hrel
    by_cases hlt:k < hi + 1 - lo
    · obtain ⟨j,hj⟩:∃ j:Nat,j + k = hi:=⟨hi - k,by omega⟩
      have ej:(hi:Int) - (k:Int) = (j:Int):=by omega
      have ek:hi + 1 - k = j + 1:=by omega
      rw [ej,ek]
      have hb:=pc_le s (j + 1) k hs
      have hst:=hid (pc_step s j k)
      have HJ:=hid hj
      have hj31:(j:Int) ≤ 31:=by omega
      have hjlo:(lo:Int) ≤ (j:Int):=by omega
      have hdm:Hid ((s:Int) / 2 ^ j = ((s / 2 ^ j:Nat):Int)):=hid (by simp)
      clear ej ek hj
      generalize pc s (j + 1) k = p at *
      go_wp2
      go_round
      case rel =>
        refine ⟨k + 1,by omega,?_,?_⟩
        · have:=HJ.out;first | (congr 1;omega) | omega | (congr 1)
        · have e:=HJ.out
          rw [show hi + 1 - (k + 1) = j by omega,← hst.out]
          rw [hdm.out]
          rw [F_add p (s / 2 ^ j) hb]
      case measure=>simp [intOf] <;> omega
    · obtain rfl:k = hi + 1 - lo:=by omega
      have e1:(hi:Int) - ((hi + 1 - lo:Nat):Int) = (lo:Int) - 1:=by omega
      have e2:hi + 1 - (hi + 1 - lo) = lo:=by omega
      rw [e1,e2]
      clear e1 e2
      go_wp2
      go_ret
      exact ⟨rfl,rfl⟩

theorem low_half (n:Int) (b:Nat) (h1:1 ≤ b) (h0:0 ≤ n) (h2:n < 2 ^ b):low n b = if 2 ^ (b - 1) ≤ n then n - 2 * 2 ^ (b - 1) else n:=by
  have hp:=pow_half b h1
  have hq:=pow_pos' (b - 1)
  split
  · exact low_unique n _ 1 b h1 (by omega) (by omega) (by omega)
  · exact low_unique n _ 0 b h1 (by omega) (by omega) (by omega)

theorem S_hi (n:Int) (b:Nat) (w:World) (h1:1 ≤ b) (h32:b ≤ 32) (h0:0 ≤ n) (hn:n < 4294967296) (hge:2 ^ (b - 1) ≤ n) :
    Calls Tryz.prog 86 #[.int .i64 n,.int .i64 b] w fun e w'=>e = .returned (.int .i64 (n - 2 * 2 ^ (b - 1)))∧w = w':=by
  have HG:=hid hge;clear hge
  go_enter Tryz.func86,Tryz.ntmps86
  go_wp2
  go_loop [5,6] (fun x i=>∃ k:Nat,k ≤ b - 1∧i = .int .i64 ((k:Int) + 1)∧x = .int .i64 (2 ^ k)) (fun x i=>b - (intOf i).toNat)
  case atStart=>exact ⟨0,by omega,rfl,rfl⟩
  case round =>
    obtain ⟨k,hk,rfl,rfl⟩:=hrel
    have hkb:(2:Int) ^ k ≤ 2147483648:=by
      have:=(low_mono (k + 1) 32 (by omega) (by omega)).1
      simpa using this
    have hkp:=pow_pos' k
    by_cases hlt:k < b - 1
    · have hc:(k:Int) + 1 < (b:Int):=by omega
      have HP:=hid (Int.pow_succ 2 k)
      generalize (2:Int) ^ k = p at *
      go_wp2
      go_round
      case rel=>exact ⟨k + 1,by omega,by first | rfl | (congr 1;omega) | (congr 1),by rw [HP.out]⟩
      case measure=>simp [intOf] <;> omega
    · obtain rfl:k = b - 1:=by omega
      have hc:(b:Int) ≤ ((b - 1:Nat):Int) + 1:=by omega
      have hge:=HG.out
      clear HG
      generalize hp:(2:Int) ^ (b - 1) = p at *
      have HQ:=hid hp;clear hp
      go_wp2
      go_ret
      exact ⟨ret_int (by rw [HQ.out]),rfl⟩

theorem S_lo (n:Int) (b:Nat) (w:World) (h1:1 ≤ b) (h32:b ≤ 32) (h0:0 ≤ n) (hn:n < 4294967296) (hge:n < 2 ^ (b - 1)) :
    Calls Tryz.prog 86 #[.int .i64 n,.int .i64 b] w fun e w'=>e = .returned (.int .i64 (n))∧w = w':=by
  have HG:=hid hge;clear hge
  go_enter Tryz.func86,Tryz.ntmps86
  go_wp2
  go_loop [5,6] (fun x i=>∃ k:Nat,k ≤ b - 1∧i = .int .i64 ((k:Int) + 1)∧x = .int .i64 (2 ^ k)) (fun x i=>b - (intOf i).toNat)
  case atStart=>exact ⟨0,by omega,rfl,rfl⟩
  case round =>
    obtain ⟨k,hk,rfl,rfl⟩:=hrel
    have hkb:(2:Int) ^ k ≤ 2147483648:=by
      have:=(low_mono (k + 1) 32 (by omega) (by omega)).1
      simpa using this
    have hkp:=pow_pos' k
    by_cases hlt:k < b - 1
    · have hc:(k:Int) + 1 < (b:Int):=by omega
      have HP:=hid (Int.pow_succ 2 k)
      generalize (2:Int) ^ k = p at *
      go_wp2
      go_round
      case rel=>exact ⟨k + 1,by omega,by first | rfl | (congr 1;omega) | (congr 1),by rw [HP.out]⟩
      case measure=>simp [intOf] <;> omega
    · obtain rfl:k = b - 1:=by omega
      have hc:(b:Int) ≤ ((b - 1:Nat):Int) + 1:=by omega
      have hge:=HG.out
      clear HG
      generalize (2:Int) ^ (b - 1) = p at *
      go_wp2
      go_ret
      exact ⟨rfl,rfl⟩

theorem S_any (n:Int) (b:Nat) (w:World) (h1:1 ≤ b) (h32:b ≤ 32) (h0:0 ≤ n) (h2:n < 2 ^ b) :
    Calls Tryz.prog 86 #[.int .i64 n,.int .i64 b] w fun e w'=>e = .returned (.int .i64 (low n b))∧w = w':=by
  have hn:n < 4294967296:=by
    have:=(low_mono (b + 1) 33 (by omega) (by omega)).1
    simp at this
    omega
  rw [low_half n b h1 h0 h2]
  by_cases h:2 ^ (b - 1) ≤ n
  · rw [if_pos h];exact S_hi n b w h1 h32 h0 hn h
  · rw [if_neg h];exact S_lo n b w h1 h32 h0 hn (by omega)

theorem one_any (b:Nat) (zs:List Int) (len cap:Nat) (k:Nat) (w:World) (hlen:zs.length = len) (hl:len ≤ 100) (hc:∀ i,i < len → w.cell? ⟨b,i,none⟩ = some (.int .i64 (zs.getD i 0))) :
    Calls Tryz.prog 87 #[.slice (some ⟨b,0,none⟩) len cap,.int .i64 k] w fun e w'=>e = .returned (.int .i64 (zs.getD k 0))∧w = w':=by
  have HC:=hid hc;clear hc
  by_cases hk:k < len
  · have h1:=HC.out k hk
    have h2:(k:Int) < (len:Int):=by omega
    generalize zs.getD k 0 = o at *
    clear hlen
    go_enter Tryz.func87,Tryz.ntmps87
    go_wp2
    go_ret
    exact ⟨rfl,rfl⟩
  · have e:zs.getD k 0 = 0:=by simp [List.getD,List.getElem?_eq_none (show zs.length ≤ k by omega)]
    rw [e]
    have h2:(len:Int) ≤ (k:Int):=by omega
    clear e hlen
    go_enter Tryz.func87,Tryz.ntmps87
    go_wp2
    go_ret
    exact ⟨rfl,rfl⟩
end Go.Proofs.YtbngjbmfkekdnaaGreatDoor.Td

namespace Go.Proofs.YtbngjbmfkekdnaaGreatDoor
open Go

section
variable {P:Program} {ops:Array Oper} {Q:Exit → Act → World → Prop} {md:Region.Mode} {S:World → Prop} {n:Nat} {L:Act → World → Prop}

def wpHd (P:Program) (md:Region.Mode) (ops:Array Oper) (Q:Exit → Act → World → Prop) (S:World → Prop) (n:Nat) (L:Act → World → Prop):Nat → Array Bool → Act → World → Prop
  | 0,listed,a,w=>Region.seqB md ops (ops.size - n) n listed = true∧L a w
  | f + 1,listed,a,w=>Region.ready md ops listed ≠ []∧∀ i ∈ Region.ready md ops listed,i < n∧wpOp P ops Q i (fun a' w'=>S w'∧wpHd P md ops Q S n L f (listed.setIfInBounds i true) a' w') a w

theorem wpAny_of_hd (hL:∀ listed a w,Region.seqB md ops (ops.size - n) n listed = true → L a w → wpAny P md ops Q (ops.size - n) listed a w) :
    ∀ (f:Nat) (listed:Array Bool) (a:Act) (w:World),wpHd P md ops Q S n L f listed a w → wpAny P md ops Q (f + (ops.size - n)) listed a w
  | 0,listed,a,w,h=>by rw [Nat.zero_add];exact hL _ _ _ h.1 h.2
  | f + 1,listed,a,w,h=>by
    rw [show f + 1 + (ops.size - n) = (f + (ops.size - n)) + 1 by omega]
    exact ⟨fun h0=>absurd h0 h.1,fun i hi=>wpOp_mono (fun a' w' h'=>wpAny_of_hd hL f _ a' w' h'.2) (h.2 i hi).2⟩

theorem wpHd_first {i:Nat} {oi:Oper} {v:Value} (hi:ops[i]? = some oi) (hsel:∀ (j:Nat) (o:Oper) cs b,ops[j]? = some o → o.op ≠ .select cs b)
    (hQ:∀ c a w,Q (.panic c) (a.put oi.dst v) w → Q (.panic c) a w)
    (hs:Region.sinkB md ops n = true) (hc:Region.chainB md ops n = true) (hn:n < ops.size) (hin:i < n) :
    ∀ (f:Nat) (listed:Array Bool) (a:Act) (w:World),HeadInv md ops n listed →
      (∀ j oj,ops[j]? = some oj → j ≠ i → listed.getD j true = false → (∀ e ∈ oj.after,Region.binds md e = true → e.on ≠ i) → oi.apart ops oj = true) →
      i ∈ Region.ready md ops listed → YieldsIf P ops S oi v a → S w →
      wpHd P md ops Q S n L f (listed.setIfInBounds i true) (a.put oi.dst v) w → wpHd P md ops Q S n L (f + 1) listed a w:=by
  intro f
  induction f with
  | zero =>
    intro listed a w inv _ hr hy hS H
    have hun:=(mem_ready.1 hr).1
    refine ⟨fun h=>(by rw [h] at hr;cases hr),fun j hj=>?_⟩
    have hjn:j < n:=by
      rcases Nat.lt_or_ge j n with h | h
      · exact h
      · exact absurd hj (tail_waits hs hc hn inv _ i rfl hin hun j h)
    refine ⟨hjn,?_⟩
    by_cases hji:j = i
    · subst hji;exact hy.wpOp hi hS ⟨hS,H⟩
    · have:=seqB_ready H.1 j (ready_mono hj hji)
      omega
  | succ f ih =>
    intro listed a w inv hfree hr hy hS H
    have hun:=(mem_ready.1 hr).1
    refine ⟨fun h=>(by rw [h] at hr;cases hr),fun j hj=>?_⟩
    have hjn:j < n:=by
      rcases Nat.lt_or_ge j n with h | h
      · exact h
      · exact absurd hj (tail_waits hs hc hn inv _ i rfl hin hun j h)
    refine ⟨hjn,?_⟩
    by_cases hji:j = i
    · subst hji;exact hy.wpOp hi hS ⟨hS,H⟩
    · have h1:=(H.2 j (ready_mono hj hji)).2
      obtain ⟨hjun,oj,hoj,hall⟩:=mem_ready.1 hj
      have hnot:∀ e ∈ oj.after,Region.binds md e = true → e.on ≠ i:=fun e he hb heq=>by
        have h1:=hall e he hb
        rw [heq,getD_both hun] at h1
        cases h1
      have h2:=wpOp_putIf hoj (hfree j oj hoj hji hjun hnot) (fun cs b=>hsel i oi cs b hi) (fun cs b=>hsel j oj cs b hoj) hQ hy h1
      have hfree':∀ k ok,ops[k]? = some ok → k ≠ i → (listed.setIfInBounds j true).getD k true = false →
          (∀ e ∈ ok.after,Region.binds md e = true → e.on ≠ i) → oi.apart ops ok = true:=fun k ok hk hki hun hno=>by
        refine hfree k ok hk hki ?_ hno
        by_cases hjk:j = k
        · subst hjk;exact hjun
        · rw [getD_set_ne true hjk] at hun;exact hun
      refine wpOp_mono (fun a' w' h3=>⟨h3.2.1,ih (listed.setIfInBounds j true) a' w' (inv.set hj hjn) hfree' (ready_mono hr (Ne.symm hji)) h3.1 h3.2.1 ?_⟩) h2
      rw [Array.setIfInBounds_comm _ _ hji]
      exact h3.2.2

def headB (md:Region.Mode) (ops:Array Oper) (n:Nat) (listed:Array Bool):Bool:=
  decide (listed.size = ops.size) &&
  ((List.range ops.size).all fun j=>!(listed.getD j false) || match ops[j]? with | some oj=>oj.after.all fun e=>!(Region.binds md e) || listed.getD e.on false | none=>true) &&
  ((List.range ops.size).all fun t=>decide (t < n) || !(listed.getD t true))
theorem headB_spec {listed:Array Bool} (h:headB md ops n listed = true):HeadInv md ops n listed:=by
  simp only [headB,Bool.and_eq_true,decide_eq_true_eq,List.all_eq_true,List.mem_range] at h
  obtain ⟨⟨h1,h2⟩,h3⟩:=h
  refine ⟨h1,fun j oj hj hl e he hb=>?_,fun t ht ht'=>?_⟩
  · have:=h2 j (Array.getElem?_eq_some_iff.1 hj).1
    rw [hl,hj] at this
    have h5:(oj.after.all fun e=>!(Region.binds md e) || listed.getD e.on false) = true:=by simpa only [Bool.not_true,Bool.false_or] using this
    have h4:=Array.all_eq_true_iff_forall_mem.1 h5 e he
    rw [hb] at h4
    simpa only [Bool.not_true,Bool.false_or] using h4
  · have:=h3 t ht'
    simp only [Bool.or_eq_true,decide_eq_true_eq,Bool.not_eq_true'] at this
    rcases this with h | h
    · omega
    · exact h

def takeB (md:Region.Mode) (ops:Array Oper) (n:Nat) (listed:Array Bool) (i:Nat):Bool:=
  Region.noSelect ops && Region.sinkB md ops n && Region.chainB md ops n && decide (n < ops.size) && decide (i < n) && headB md ops n listed && Region.free md ops listed i && (Region.ready md ops listed).contains i

theorem wpHd_take {i:Nat} {oi:Oper} {v:Value} {f:Nat} {listed:Array Bool} {a:Act} {w:World} (hi:ops[i]? = some oi) (hB:takeB md ops n listed i = true)
    (hQ:∀ c a w,Q (.panic c) (a.put oi.dst v) w → Q (.panic c) a w) (hy:YieldsIf P ops S oi v a) (hS:S w)
    (h:wpHd P md ops Q S n L f (listed.setIfInBounds i true) (a.put oi.dst v) w):wpHd P md ops Q S n L (f + 1) listed a w:=by
  simp only [takeB,Bool.and_eq_true,decide_eq_true_eq] at hB
  obtain ⟨⟨⟨⟨⟨⟨⟨h1,h2⟩,h3⟩,h4⟩,h5⟩,h6⟩,h7⟩,h8⟩:=hB
  exact wpHd_first hi (Region.noSelect_spec h1) hQ h2 h3 h4 h5 f listed a w (headB_spec h6) (Region.free_spec hi h7) (by simpa using h8) hy hS h

theorem wpHd_one {i:Nat} {o:Oper} {f:Nat} {listed:Array Bool} {a:Act} {w:World} (ho:ops[i]? = some o) (hB:(decide (Region.ready md ops listed = [i]) && decide (i < n)) = true)
    (h:∀ K':Act → World → Prop,Shut (∀ a w,S w → (S w → wpHd P md ops Q S n L f (listed.setIfInBounds i true) a w) → K' a w) → if Region.wanted o (yielded ops a.tmps) = true then Oper.wp P o a w K' Q else K' (a.put o.dst undef) w) :
    wpHd P md ops Q S n L (f + 1) listed a w:=by
  simp only [Bool.and_eq_true,decide_eq_true_eq] at hB
  refine ⟨by rw [hB.1];simp,fun j hj=>?_⟩
  rw [hB.1] at hj
  obtain rfl:j = i:=by simpa using hj
  exact ⟨hB.2,wpOp_step ho (fun K' hK=>h K' (fun a w hS hW=>hK a w ⟨hS,hW hS⟩))⟩

theorem wp_region_hd {id:Nat} {l:List Oper} {a:Act} {w:World} (n:Nat) (S:World → Prop) (hm:P.follows .mixedOrders = true) (hn:n < l.length) (hS:S w.drew)
    (h:S w.drew → wpHd P .any l.toArray Q S n (fun a' w'=>wpList P l.toArray Q (l.drop n) a' w') n (Array.replicate l.toArray.size false) a w.drew):(Code.region id l.toArray true).wp P Q a w:=by
  have hdl:(l.drop n).length = l.toArray.size - n:=by simp
  refine wp_region_any hm ?_
  have:=wpAny_of_hd (P:=P) (md:=.any) (ops:=l.toArray) (Q:=Q) (S:=S) (n:=n) (fun listed a' w' hB hL=>by
    have:=wpAny_of_seq (md:=.any) (Q':=Q) (l.drop n) n listed a' w' (fun j=>by simp [List.getElem?_drop]) (by rw [hdl];exact hB) hL
    rwa [hdl] at this) _ _ _ _ (h hS)
  rw [show n + (l.toArray.size - n) = l.toArray.size by simp;omega] at this
  exact this
end
end Go.Proofs.YtbngjbmfkekdnaaGreatDoor

namespace Go.Proofs.YtbngjbmfkekdnaaGreatDoor.Td
open Go.RowKit

end Go.Proofs.YtbngjbmfkekdnaaGreatDoor.Td

namespace Go.Proofs.YtbngjbmfkekdnaaGreatDoor.Td
open Go.RowKit
abbrev I7 (op rd r1 r2 im od sz:Int):Array Value:=#[.int .i64 op,.int .i64 rd,.int .i64 r1,.int .i64 r2,.int .i64 im,.int .i64 od,.int .i64 sz]

structure FrT (w:World) (c s:Nat) (cs:Array Value) (w1:World):Prop where
  kp:Kp none w w1
  box:Has w1 w.heap.size 47 cs
  res:Has w1 (w.heap.size + 1) 47 (I7 0 0 0 0 0 0 0)
  mv:Has w1 c 37 #[.int .u32 s]
  lt:c < w.heap.size
theorem FrT.start {w:World} {c s:Nat} (cs:Array Value) (h:Has w c 37 #[.int .u32 s]) :
    FrT w c s cs ((w.alloc (.cells cs 47)).alloc (.cells (I7 0 0 0 0 0 0 0) 47)):=
  ⟨((Kp.refl _ _).alloc _ _).alloc _ _,(Has.new _ _ _).alloc _,by have:=Has.new (w.alloc (.cells cs 47)) (I7 0 0 0 0 0 0 0) 47;simpa using this,(h.alloc _).alloc _,h.lt⟩
theorem FrT.call {w w1 w2:World} {c s:Nat} {cs:Array Value} (h:FrT w c s cs w1) (k:Kp none w1 w2):FrT w c s cs w2:=
  ⟨h.kp.trans k,h.box.kp k (by simp),h.res.kp k (by simp),h.mv.kp k (by simp),h.lt⟩
theorem FrT.set {w w1:World} {c s:Nat} {cs:Array Value} (h:FrT w c s cs w1) (i:Nat) (u:Value):FrT w c s (cs.setIfInBounds i u) (w1.setCell ⟨w.heap.size,i,none⟩ u):=
  ⟨h.kp.setCell (Or.inl (Nat.le_refl _)) _,h.box.set i u,h.res.other (by show w.heap.size + 1 ≠ w.heap.size;omega) _,h.mv.other (by have:=h.lt;show c ≠ w.heap.size;omega) _,h.lt⟩
theorem Has.seven {w:World} {b:Nat} {op rd r1 r2 im od sz:Int} (h:Has w b 47 (I7 op rd r1 r2 im od sz)) :
    w.cell? ⟨b,0,none⟩ = some (.int .i64 op)∧w.cell? ⟨b,1,none⟩ = some (.int .i64 rd)∧w.cell? ⟨b,2,none⟩ = some (.int .i64 r1)∧w.cell? ⟨b,3,none⟩ = some (.int .i64 r2) ∧
    w.cell? ⟨b,4,none⟩ = some (.int .i64 im)∧w.cell? ⟨b,5,none⟩ = some (.int .i64 od)∧w.cell? ⟨b,6,none⟩ = some (.int .i64 sz):=
  ⟨h.cell 0,h.cell 1,h.cell 2,h.cell 3,h.cell 4,h.cell 5,h.cell 6⟩

theorem FrT.drew {w w1:World} {c s:Nat} {cs:Array Value} (h:FrT w c s cs w1):FrT w c s cs w1.drew:=⟨h.kp.drew,h.box,h.res,h.mv,h.lt⟩
theorem Has.seven_set {w:World} {b:Nat} (h:Has w b 47 (I7 0 0 0 0 0 0 0)) (v0 v1 v2 v3 v4 v5 v6:Value):Has (((((((w.setCell ⟨b,0,none⟩ v0).setCell ⟨b,1,none⟩ v1).setCell ⟨b,2,none⟩ v2).setCell ⟨b,3,none⟩ v3).setCell ⟨b,4,none⟩ v4).setCell ⟨b,5,none⟩ v5).setCell ⟨b,6,none⟩ v6) b 47 #[v0,v1,v2,v3,v4,v5,v6]:=by
  have:=((((((h.set 0 v0).set 1 v1).set 2 v2).set 3 v3).set 4 v4).set 5 v5).set 6 v6
  exact this
theorem Kp.seven_set {o:Option Nat} {a w:World} (h:Kp o a w) {b:Nat} (hb:a.heap.size ≤ b) (v0 v1 v2 v3 v4 v5 v6:Value):Kp o a (((((((w.setCell ⟨b,0,none⟩ v0).setCell ⟨b,1,none⟩ v1).setCell ⟨b,2,none⟩ v2).setCell ⟨b,3,none⟩ v3).setCell ⟨b,4,none⟩ v4).setCell ⟨b,5,none⟩ v5).setCell ⟨b,6,none⟩ v6):=
  ((((((h.setCell (Or.inl hb) v0).setCell (Or.inl hb) v1).setCell (Or.inl hb) v2).setCell (Or.inl hb) v3).setCell (Or.inl hb) v4).setCell (Or.inl hb) v5).setCell (Or.inl hb) v6

end Go.Proofs.YtbngjbmfkekdnaaGreatDoor.Td
