/-
  A machine's state: its place, its registers, what is held; the program's small functions on it.
  Stamp of a store and of a space; Regions; a Check that only asks; In; Fetch; faults of a width that is none.
  Faults, loads, stores and fetches of any width.
  Store of any width; Fetch; which prot a place has.
  What a Fetch answers, told by the regions and the bytes; the contract of the program's Fetch.
  What a call leaves of the memory that was there: all of it, but perhaps one block. Blocks of a struct, of one cell.
  Contracts of the small functions of package inst: a run of bits, a number with a sign, what moves pieces out of a word.
  Contracts of the reference's small functions: bits of a word, a number with a sign, a place in a list.
-/
import Derived.Test.YtlhpodholnfppaaGreatDoorT12
import Derived.Deep.MidRow
import Derived.Deep.Cut
import Derived.Laws.BitsAll
import Derived.Laws.BitsAllLaws
import Derived.Test.YtlhpodholnfppaaGreatDoorRows
import Derived.Test.YtlhpodholnfppaaGreatDoorT1
import Derived.WalkKit
import Derived.WalkSpells
import Derived.WalkLawsBesides
import Derived.Lib.Hide
import Derived.Deep.Draws
import Derived.Below
import Derived.Deep.QuietTactic
import Derived.BigQuiet
set_option linter.unusedVariables false
set_option linter.unusedSimpArgs false
set_option maxHeartbeats 16000000
open Go.Lib (hid)
namespace Go.Proofs.YtlhpodholnfppaaGreatDoor
open Go.RowKit
set_option maxRecDepth 100000
def rx (xs:List Int) (r:Int):Int:=xs.getD r.toNat 0
def setX (xs:List Int) (r y:Int):List Int:=(xs.set r.toNat y).set 0 0
structure Regs (xs:List Int):Prop where
  len:xs.length = 32
  bd:∀ k,0 ≤ xs.getD k 0∧xs.getD k 0 < 18446744073709551616
  z:xs.getD 0 0 = 0
theorem Regs.rx {xs:List Int} (h:Regs xs) (r:Int):0 ≤ rx xs r∧rx xs r < 18446744073709551616:=h.bd _
theorem getD_set (xs:List Int) (r k:Nat) (y:Int) (hr:r < xs.length):(xs.set r y).getD k 0 = if r = k then y else xs.getD k 0:=by
  rw [List.getD_eq_getElem?_getD,List.getElem?_set]
  split
  · simp [hr]
  · rw [List.getD_eq_getElem?_getD]
theorem Regs.set {xs:List Int} (h:Regs xs) (r y:Int) (hr:0 ≤ r∧r < 32) (hy:0 ≤ y∧y < 18446744073709551616):Regs (setX xs r y):=by
  have hl:=h.len
  refine ⟨by simp [setX,hl],fun k=>?_,?_⟩
  · unfold setX
    rw [getD_set _ _ _ _ (by simp [hl]),getD_set _ _ _ _ (by omega)]
    have:=h.bd k
    split
    · omega
    · split <;> omega
  · unfold setX
    rw [getD_set _ _ _ _ (by simp [hl]),if_pos rfl]
theorem setX_zero {xs:List Int} (h:Regs xs) (y:Int):setX xs 0 y = xs:=by
  have hl:=h.len
  refine List.ext_getElem? fun k=>?_
  have h0:=h.z
  rw [List.getD_eq_getElem?_getD] at h0
  unfold setX
  rw [List.getElem?_set,List.getElem?_set]
  simp only [Int.toNat_zero,List.length_set]
  by_cases hk:0 = k
  · subst hk
    simp only [if_true,hl]
    rw [List.getElem?_eq_getElem (by omega)] at h0 ⊢
    simp at h0
    simp [h0]
  · rw [if_neg hk,if_neg hk]
theorem setX_pos {xs:List Int} (h:Regs xs) {r:Nat} (hr:0 < r) (y:Int):setX xs r y = xs.set r y:=by
  have hl:=h.len
  refine List.ext_getElem? fun k=>?_
  have h0:=h.z
  rw [List.getD_eq_getElem?_getD] at h0
  unfold setX
  rw [List.getElem?_set]
  simp only [Int.toNat_natCast,List.length_set]
  by_cases hk:0 = k
  · subst hk
    rw [if_pos rfl,if_pos (by omega),List.getElem?_set,if_neg (by omega)]
    rw [List.getElem?_eq_getElem (by omega)] at h0 ⊢
    simp at h0
    simp [h0]
  · rw [if_neg hk]
def stV (pc:Int) (xs:List Int) (ha hn:Int):List Value:=(.int .u64 pc :: xs.map (Value.int .u64)) ++ [.int .u64 ha,.int .i64 hn]
theorem stV_len (pc:Int) {xs:List Int} (ha hn:Int) (h:xs.length = 32):(stV pc xs ha hn).length = 35:=by simp [stV,h]
theorem stV_x (pc:Int) {xs:List Int} (ha hn:Int) (h:xs.length = 32) (k:Nat) (hk:k < 32):(stV pc xs ha hn)[1 + k]? = some (.int .u64 (xs.getD k 0)):=by
  unfold stV
  rw [List.getElem?_append_left (by simp [h];omega),Nat.add_comm 1 k,List.getElem?_cons_succ,List.getElem?_map,List.getD_eq_getElem?_getD,List.getElem?_eq_getElem (by omega)]
  rfl
theorem stV_setX (pc:Int) {xs:List Int} (ha hn:Int) (h:xs.length = 32) (k:Nat) (hk:k < 32) (y:Int):(stV pc xs ha hn).set (1 + k) (.int .u64 y) = stV pc (xs.set k y) ha hn:=by
  unfold stV
  rw [List.set_append_left _ _ (by simp [h];omega),Nat.add_comm 1 k,List.set_cons_succ,List.map_set]
theorem stV_hold (pc:Int) {xs:List Int} (ha hn:Int) (h:xs.length = 32):(stV pc xs ha hn)[33]? = some (.int .u64 ha)∧(stV pc xs ha hn)[34]? = some (.int .i64 hn):=by
  unfold stV
  constructor <;> rw [List.getElem?_append_right (by simp [h])] <;> simp [h]
theorem stV_setHold (pc:Int) {xs:List Int} (ha hn a n:Int) (h:xs.length = 32):((stV pc xs ha hn).set 33 (.int .u64 a)).set 34 (.int .i64 n) = stV pc xs a n:=by
  unfold stV
  rw [List.set_append_right _ _ (by simp [h]),List.set_append_right _ _ (by simp [h])]
  simp [h]
structure StAt (w:World) (b:Nat) (pc:Int) (xs:List Int) (ha hn:Int):Prop where
  blk:w.heap[b]? = some (.cells (stV pc xs ha hn).toArray 47 (0,0))
  len:xs.length = 32
section
variable {w w':World} {b:Nat} {pc ha hn:Int} {xs:List Int}
theorem StAt.lt (h:StAt w b pc xs ha hn):b < w.heap.size:=lt_at h.blk
theorem StAt.bl (h:StAt w b pc xs ha hn) (k:Bl w w'):StAt w' b pc xs ha hn:=⟨k.at_ h.blk,h.len⟩
theorem StAt.fr {U:Nat → Prop} (h:StAt w b pc xs ha hn) (k:Fr U w w') (hn':¬ U b):StAt w' b pc xs ha hn:=⟨k.at_ h.blk hn',h.len⟩
theorem StAt.free (h:StAt w b pc xs ha hn) (i:Nat):w.frozen? ⟨b,i,none⟩ = false:=by simp [World.frozen?,h.blk]
theorem StAt.pc_ (h:StAt w b pc xs ha hn):w.cell? ⟨b,0,none⟩ = some (.int .u64 pc):=by
  rw [cell_of_row w b _ _ _ (0,0) h.blk,List.getElem?_toArray];rfl
theorem StAt.x (h:StAt w b pc xs ha hn) (r:Nat) (hr:r < 32):w.cell? ⟨b,1 + r,none⟩ = some (.int .u64 (xs.getD r 0)):=by
  rw [cell_of_row w b _ _ _ (0,0) h.blk,List.getElem?_toArray,stV_x _ _ _ h.len r hr]
theorem StAt.hold (h:StAt w b pc xs ha hn):w.cell? ⟨b,33,none⟩ = some (.int .u64 ha)∧w.cell? ⟨b,34,none⟩ = some (.int .i64 hn):=by
  obtain ⟨h1,h2⟩:=stV_hold pc ha hn h.len
  constructor <;> rw [cell_of_row w b _ _ _ (0,0) h.blk,List.getElem?_toArray] <;> assumption
theorem StAt.setPc (h:StAt w b pc xs ha hn) (p:Int):StAt (w.setCell ⟨b,0,none⟩ (.int .u64 p)) b p xs ha hn:=by
  refine ⟨?_,h.len⟩
  rw [heap_setCell_same w b 0 _ _ _ h.blk,List.setIfInBounds_toArray];rfl
theorem StAt.setReg (h:StAt w b pc xs ha hn) (r:Nat) (hr:r < 32) (y:Int):StAt (w.setCell ⟨b,1 + r,none⟩ (.int .u64 y)) b pc (xs.set r y) ha hn:=by
  refine ⟨?_,by simp [h.len]⟩
  rw [heap_setCell_same w b (1 + r) _ _ _ h.blk,List.setIfInBounds_toArray,stV_setX _ _ _ h.len r hr]
theorem StAt.setHold (h:StAt w b pc xs ha hn) (a n:Int):StAt ((w.setCell ⟨b,33,none⟩ (.int .u64 a)).setCell ⟨b,34,none⟩ (.int .i64 n)) b pc xs a n:=by
  refine ⟨?_,h.len⟩
  have h1:=heap_setCell_same w b 33 _ _ (.int .u64 a) h.blk
  rw [List.setIfInBounds_toArray] at h1
  rw [heap_setCell_same _ b 34 _ _ _ h1,List.setIfInBounds_toArray,stV_setHold _ _ _ _ _ h.len]
end
theorem isBranch_any (op:Int) (w:World):Calls Tryz.prog 80 #[.int .i64 op] w fun e w'=>e = .returned (.bool (decide (5 ≤ op∧op ≤ 10)))∧w = w':=by
  by_cases h1:5 ≤ op
  · by_cases h2:op ≤ 10
    · rw [decide_eq_true ⟨h1,h2⟩]
      go_enter Tryz.func80,Tryz.ntmps80
      go_wp2
      go_ret
      exact ⟨rfl,rfl⟩
    · rw [decide_eq_false (fun e=>h2 e.2)]
      go_enter Tryz.func80,Tryz.ntmps80
      go_wp2
      go_ret
      exact ⟨rfl,rfl⟩
  · rw [decide_eq_false (fun e=>h1 e.1)]
    go_enter Tryz.func80,Tryz.ntmps80
    go_wp2
    go_ret
    exact ⟨rfl,rfl⟩
theorem isLoad_any (op:Int) (w:World):Calls Tryz.prog 82 #[.int .i64 op] w fun e w'=>e = .returned (.bool (decide (11 ≤ op∧op ≤ 17)))∧w = w':=by
  by_cases h1:11 ≤ op
  · by_cases h2:op ≤ 17
    · rw [decide_eq_true ⟨h1,h2⟩]
      go_enter Tryz.func82,Tryz.ntmps82
      go_wp2
      go_ret
      exact ⟨rfl,rfl⟩
    · rw [decide_eq_false (fun e=>h2 e.2)]
      go_enter Tryz.func82,Tryz.ntmps82
      go_wp2
      go_ret
      exact ⟨rfl,rfl⟩
  · rw [decide_eq_false (fun e=>h1 e.1)]
    go_enter Tryz.func82,Tryz.ntmps82
    go_wp2
    go_ret
    exact ⟨rfl,rfl⟩
theorem isStore_any (op:Int) (w:World):Calls Tryz.prog 84 #[.int .i64 op] w fun e w'=>e = .returned (.bool (decide (18 ≤ op∧op ≤ 21)))∧w = w':=by
  by_cases h1:18 ≤ op
  · by_cases h2:op ≤ 21
    · rw [decide_eq_true ⟨h1,h2⟩]
      go_enter Tryz.func84,Tryz.ntmps84
      go_wp2
      go_ret
      exact ⟨rfl,rfl⟩
    · rw [decide_eq_false (fun e=>h2 e.2)]
      go_enter Tryz.func84,Tryz.ntmps84
      go_wp2
      go_ret
      exact ⟨rfl,rfl⟩
  · rw [decide_eq_false (fun e=>h1 e.1)]
    go_enter Tryz.func84,Tryz.ntmps84
    go_wp2
    go_ret
    exact ⟨rfl,rfl⟩
def immOp (op:Int):Prop:=op = 1 ∨ (22 ≤ op∧op ≤ 30) ∨ (41 ≤ op∧op ≤ 44)
instance (op:Int):Decidable (immOp op):=by unfold immOp;exact inferInstance
theorem takesImm_any (op:Int) (w:World):Calls Tryz.prog 133 #[.int .i64 op] w fun e w'=>e = .returned (.bool (decide (immOp op)))∧w = w':=by
  rcases (by omega:op = 1 ∨ (op ≠ 1∧op < 22) ∨ (22 ≤ op∧op ≤ 30) ∨ (30 < op∧op < 41) ∨ (41 ≤ op∧op ≤ 44) ∨ 44 < op) with h | ⟨h,h'⟩ | ⟨h,h'⟩ | ⟨h,h'⟩ | ⟨h,h'⟩ | h
  · subst h
    rw [show decide (immOp 1) = true from rfl]
    go_enter Tryz.func133,Tryz.ntmps133
    go_wp2
    go_ret
    exact ⟨by first | rfl | exact ret_bool (by simp <;> omega),rfl⟩
  · rw [show decide (immOp op) = false from decide_eq_false (by unfold immOp;omega)]
    have h1:=nin h
    go_enter Tryz.func133,Tryz.ntmps133
    go_wp2
    go_ret
    exact ⟨by first | rfl | exact ret_bool (by simp <;> omega),rfl⟩
  · rw [show decide (immOp op) = true from decide_eq_true (by unfold immOp;omega)]
    have h1:=nin (show ¬ op = 1 by omega)
    go_enter Tryz.func133,Tryz.ntmps133
    go_wp2
    go_ret
    exact ⟨by first | rfl | exact ret_bool (by simp <;> omega),rfl⟩
  · rw [show decide (immOp op) = false from decide_eq_false (by unfold immOp;omega)]
    have h1:=nin (show ¬ op = 1 by omega)
    have h2:decide (op ≤ 30) = false:=decide_eq_false (by omega)
    go_enter Tryz.func133,Tryz.ntmps133
    go_wp2
    go_ret
    exact ⟨by first | rfl | exact ret_bool (by simp <;> omega),rfl⟩
  · rw [show decide (immOp op) = true from decide_eq_true (by unfold immOp;omega)]
    have h1:=nin (show ¬ op = 1 by omega)
    go_enter Tryz.func133,Tryz.ntmps133
    go_wp2
    go_ret
    exact ⟨by first | rfl | exact ret_bool (by simp <;> omega),rfl⟩
  · rw [show decide (immOp op) = false from decide_eq_false (by unfold immOp;omega)]
    have h1:=nin (show ¬ op = 1 by omega)
    have h2:decide (op ≤ 30) = false:=decide_eq_false (by omega)
    go_enter Tryz.func133,Tryz.ntmps133
    go_wp2
    go_ret
    exact ⟨by first | rfl | exact ret_bool (by simp <;> omega),rfl⟩
def lwid (op:Int):Nat:=if op = 11 ∨ op = 15 then 1 else if op = 12 ∨ op = 16 then 2 else if op = 13 ∨ op = 17 then 4 else 8
def swid (op:Int):Nat:=if op = 18 then 1 else if op = 19 then 2 else if op = 20 then 4 else 8
theorem lwid_is (op:Int):lwid op = 1 ∨ lwid op = 2 ∨ lwid op = 4 ∨ lwid op = 8:=by unfold lwid;split <;> (try split) <;> (try split) <;> simp
theorem swid_is (op:Int):swid op = 1 ∨ swid op = 2 ∨ swid op = 4 ∨ swid op = 8:=by unfold swid;split <;> (try split) <;> (try split) <;> simp
theorem loadBytes_any (op:Int) (w:World) (ho:11 ≤ op∧op ≤ 17):Calls Tryz.prog 126 #[.int .i64 op] w fun e w'=>e = .returned (.int .i64 (lwid op:Int))∧w = w':=by
  rcases (by omega:op = 11 ∨ op = 12 ∨ op = 13 ∨ op = 14 ∨ op = 15 ∨ op = 16 ∨ op = 17) with rfl | rfl | rfl | rfl | rfl | rfl | rfl
  all_goals
    go_enter Tryz.func126,Tryz.ntmps126
    go_wp2
    go_ret
    exact ⟨rfl,rfl⟩
theorem storeBytes_any (op:Int) (w:World) (ho:18 ≤ op∧op ≤ 21):Calls Tryz.prog 131 #[.int .i64 op] w fun e w'=>e = .returned (.int .i64 (swid op:Int))∧w = w':=by
  rcases (by omega:op = 18 ∨ op = 19 ∨ op = 20 ∨ op = 21) with rfl | rfl | rfl | rfl
  all_goals
    go_enter Tryz.func131,Tryz.ntmps131
    go_wp2
    go_ret
    exact ⟨rfl,rfl⟩
theorem hfaulty_any (k x:Int) (w:World):Calls Tryz.prog 128 #[faultV k x] w fun e w'=>e = .returned (stopV 4 k x)∧Bl w w':=by
  unfold faultV stopV
  go_enter Tryz.func128,Tryz.ntmps128
  go_wp2_with fail
  have hh:=(Bl.new w (.cells #[.int .i64 k,.int .u64 x] 31)).alloc (.cells #[.int .i64 4,.int .i64 k,.int .u64 x] 33)
  have hg:((w.alloc (.cells #[.int .i64 k,.int .u64 x] 31)).alloc (.cells #[.int .i64 4,.int .i64 k,.int .u64 x] 33)).heap[w.heap.size + 1]? = some (.cells #[.int .i64 4,.int .i64 k,.int .u64 x] 33 (0,0)):=by
    have:=heap_alloc_new (w.alloc (.cells #[.int .i64 k,.int .u64 x] 31)) (.cells #[.int .i64 4,.int .i64 k,.int .u64 x] 33)
    rwa [show (w.alloc (.cells #[.int .i64 k,.int .u64 x] 31)).heap.size = w.heap.size + 1 by simp] at this
  refine bodyPost_ret (results_cell_row rfl _ _ (w.heap.size + 1) 33 _ (0,0) _ rfl hg Tryz.underlying33 rfl (by kernel_rfl)) rfl ?_
  exact ⟨rfl,hh⟩
theorem put_any {w:World} {b:Nat} {pc ha hn:Int} {xs:List Int} (h:StAt w b pc xs ha hn) (hR:Regs xs) (r:Int) (hr:0 ≤ r∧r < 32) (y:Int) :
    Calls Tryz.prog 77 #[addr0 b,.int .i64 r,.int .u64 y] w fun e w'=>e = .returned (.tuple #[])∧StAt w' b pc (setX xs r y) ha hn∧Fr (only b) w w'∧w'.heap.size = w.heap.size:=by
  obtain ⟨r,rfl⟩:=Int.eq_ofNat_of_zero_le hr.1
  have hr':r < 32:=by omega
  have c0:=h.x r hr'
  have f0:=h.free (1 + r)
  have H:=hid h;clear h
  have HR:=hid hR;clear hR
  unfold addr0
  by_cases h0:r = 0
  · subst h0
    go_enter Tryz.func77,Tryz.ntmps77
    go_wp2_with fail
    refine bodyPost_end (results_none rfl _ _ _) rfl ?_
    exact ⟨rfl,by rw [show ((0:Nat):Int) = 0 from rfl,setX_zero HR.out];exact H.out,Fr.of_bl (Bl.refl _),rfl⟩
  · have h1:((r:Int) == 0) = false:=by simp;omega
    go_enter Tryz.func77,Tryz.ntmps77
    go_wp2_with fail
    refine bodyPost_end (results_none rfl _ _ _) rfl ?_
    exact ⟨rfl,by rw [setX_pos HR.out (by omega)];exact H.out.setReg r hr' y,Fr.set (S:=only b) (p:=⟨b,1 + r,none⟩) rfl _,by simp [World.setCell]⟩
end Go.Proofs.YtlhpodholnfppaaGreatDoor

namespace Go.Proofs.YtlhpodholnfppaaGreatDoor
open Go.RowKit
set_option maxRecDepth 100000
theorem zeroU (w:World):(zeroValue 29).run Tryz.prog w = .ok (.int .u64 0) w:=by kernel_rfl
theorem SMV.look {S:Nat → Prop} {w:World} {sm:Value} {n:Nat} {c:Int} {st:Nat → Int} (h:SMV S w sm n c st) {p:Nat} (hp:p < 2 ^ 64) :
    ∃ v ok,(Instr.lookup 99 sm (.int .u64 (p:Int)) true).run Tryz.prog w = .ok (.tuple #[.int .u64 v,.bool ok]) w∧((ok = true∧v = st p) ∨ (ok = false∧c = st p)):=by
  rcases h with ⟨rfl,h1⟩ | ⟨B,D,rfl,_,hown,g,hg1,hg2,hg3⟩
  · exact ⟨0,false,Maps.look_nil true law27 Tryz.underlying99 (zeroU w) (key_of hp),.inr ⟨rfl,(h1 p hp).symm⟩⟩
  · have hz:plainElem (H:=Nat) Tryz.prog 29 (.int .u64 0) = some (.lit (.int .u64 0),[]):=plainElem_int Tryz.underlying29 (by decide)
    obtain ⟨v,ps,hrun,hv⟩:=hown.look_ok law27 Tryz.underlying99 (zeroU w) hz (key_of hp)
    obtain ⟨a,rfl,e,_⟩:=plainElem_int_inv Tryz.underlying29 hv
    refine ⟨a,_,hrun,?_⟩
    rw [hg1 p hp]
    rcases hgp:g p with _ | y
    · exact .inr ⟨rfl,by rw [hg3 p hp,hgp];rfl⟩
    · refine .inl ⟨rfl,?_⟩
      rw [hg2 p y hp hgp] at e
      injection e with e
      injection e with e
      injection e with _ e
      rw [hg3 p hp,hgp,← e];rfl
theorem pstamp_any {Y:Rest} {S:Nat → Prop} {w:World} {sb n k:Nat} {f:Nat → Option Nat} {M st:Nat → Int} (h:StoreAt Y S w sb n f k M st) (p:Nat) (hp:p < 2 ^ 64) :
    Calls Tryz.prog 168 #[.pointer (some ⟨sb,1,none⟩),.int .u64 (p:Int)] w fun e w'=>e = .returned (.int .u64 (st p))∧w = w':=by
  obtain ⟨pm,sm,c,l,h⟩:=h
  obtain ⟨c0,c1,c2,c3⟩:=h.cell
  obtain ⟨v,ok,hlook,hv⟩:=h.stamps.look hp
  clear h
  rcases hv with ⟨rfl,hv⟩ | ⟨rfl,hv⟩
  · have HV:=hid hv;clear hv
    go_enter Tryz.func168,Tryz.ntmps168
    go_wp2
    go_ret
    exact ⟨by rw [← HV.out];rfl,rfl⟩
  · have HV:=hid hv;clear hv
    go_enter Tryz.func168,Tryz.ntmps168
    go_wp2
    go_ret
    exact ⟨by rw [← HV.out];rfl,rfl⟩
theorem mstamp_any {T:Nat → Prop} {w:World} {sb n:Nat} {L:List Rg} {M st:Nat → Int} {mo ba en:Int} (h:MS T w sb n L M st mo ba en) (p:Nat) (hp:p < 2 ^ 64) :
    Calls Tryz.prog 148 #[addr0 sb,.int .u64 (p:Int)] w fun e w'=>e = .returned (.int .u64 (st p))∧w = w':=by
  obtain ⟨rg,f,k0,h3,_,_⟩:=h.ex
  have cr:=pstamp_any h3 p hp
  have CR:=hid cr;clear cr h3 h
  unfold addr0
  go_enter Tryz.func148,Tryz.ntmps148
  go_wp2_with fail
  refine CR.out.mono ?_
  rintro e w1 ⟨rfl,rfl⟩
  go_wp2_with fail
  go_ret
  exact ⟨rfl,rfl⟩
end Go.Proofs.YtlhpodholnfppaaGreatDoor

namespace Go.Proofs.YtlhpodholnfppaaGreatDoor
open Go.RowKit
set_option maxRecDepth 100000
theorem can_under {L:List Rg} {p y:Int} (h:So 0 274877906944 L) (hc:Can L p y):y < 274877906944:=by
  obtain ⟨q,⟨r,hr,_,h2,_⟩,_⟩:=hc
  have:=h.2 r hr
  omega
theorem lay_ne {M:Nat → Int} {a:Nat} {cs:List Int} {x:Nat} (h:lay M a cs x ≠ M x):a ≤ x∧x < a + cs.length:=by
  rcases Nat.lt_or_ge x a with h1 | h1
  · exact absurd (lay_out _ _ _ _ (.inl h1)) h
  · rcases Nat.lt_or_ge x (a + cs.length) with h2 | h2
    · exact ⟨h1,h2⟩
    · exact absurd (lay_out _ _ _ _ (.inr h2)) h
end Go.Proofs.YtlhpodholnfppaaGreatDoor

namespace Go.Proofs.YtlhpodholnfppaaGreatDoor
open Go.RowKit
set_option maxRecDepth 100000
end Go.Proofs.YtlhpodholnfppaaGreatDoor

namespace Go.Proofs.YtlhpodholnfppaaGreatDoor
open Go.RowKit
set_option maxRecDepth 100000
def Cans (L:List Rg) (p a:Int) (n:Nat):Prop:=∀ y,a ≤ y → y < a + n → Can L p y
def FirstBad (L:List Rg) (p a b x:Int):Prop:=a ≤ x∧x < b∧¬ Can L p x∧∀ y,a ≤ y → y < x → Can L p y
theorem FirstBad.one {L:List Rg} {p a b x y:Int} (h:FirstBad L p a b x) (k:FirstBad L p a b y):x = y:=by
  obtain ⟨h1,h2,h3,h4⟩:=h
  obtain ⟨k1,k2,k3,k4⟩:=k
  rcases Int.lt_trichotomy x y with e | e | e
  · exact absurd (k4 x h1 e) h3
  · exact e
  · exact absurd (h4 y k1 e) k3
theorem FirstBad.not {L:List Rg} {p a x:Int} {n:Nat} (h:FirstBad L p a (a + n) x):¬ Cans L p a n:=fun k=>h.2.2.1 (k x h.1 h.2.1)
def HalfIs (L:List Rg) (M:Nat → Int) (a:Nat) (y k x:Int):Prop:=(k = 3∧y = 0∧(a:Int) ≤ x∧x < a + (2:Nat)∧¬ Can L 4 x∧∀ y,(a:Int) ≤ y → y < x → Can L 4 y) ∨ (k = 0∧x = 0∧y = numAt M a 2∧∀ z,(a:Int) ≤ z → z < a + (2:Nat) → Can L 4 z)
inductive FetchIs (L:List Rg) (M:Nat → Int) (a:Nat):Int → Int → Int → Prop
  | odd:a % 2 = 1 → FetchIs L M a 0 3 a
  | bad1 (x:Int):a % 2 = 0 → FirstBad L 4 a (a + (2:Nat)) x → FetchIs L M a 0 3 x
  | short:a % 2 = 0 → Cans L 4 a 2 → numAt M a 2 % 4 ≠ 3 → FetchIs L M a (numAt M a 2) 0 0
  | bad2 (x:Int):a % 2 = 0 → Cans L 4 a 2 → numAt M a 2 % 4 = 3 → FirstBad L 4 ((a + 2:Nat):Int) (((a + 2:Nat):Int) + (2:Nat)) x → FetchIs L M a 0 3 x
  | long:a % 2 = 0 → Cans L 4 a 2 → Cans L 4 ((a + 2:Nat):Int) 2 → numAt M a 2 % 4 = 3 → FetchIs L M a (numAt M a 4) 0 0
def FetchPost (w:World) (L:List Rg) (M:Nat → Int) (a:Nat) (e:Ending) (w':World):Prop:=∃ y k x,e = .returned (.tuple #[.int .u32 y,faultV k x])∧FetchIs L M a y k x∧Bl w w'
theorem FetchIs.one {L:List Rg} {M:Nat → Int} {a:Nat} {y k x y' k' x':Int} (h:FetchIs L M a y k x) (g:FetchIs L M a y' k' x'):y = y'∧k = k'∧x = x':=by
  cases h with
  | odd h1 =>
    cases g with
    | odd=>exact ⟨rfl,rfl,rfl⟩
    | bad1 _ g1 _=>omega
    | short g1=>omega
    | bad2 _ g1=>omega
    | long g1=>omega
  | bad1 _ h1 h2 =>
    cases g with
    | odd=>omega
    | bad1 _ g1 g2=>exact ⟨rfl,rfl,h2.one g2⟩
    | short _ g2=>exact absurd g2 h2.not
    | bad2 _ _ g2=>exact absurd g2 h2.not
    | long _ g2=>exact absurd g2 h2.not
  | short h1 h2 h3 =>
    cases g with
    | odd=>omega
    | bad1 _ g1 g2=>exact absurd h2 g2.not
    | short _ g2=>exact ⟨rfl,rfl,rfl⟩
    | bad2 _ _ g2 g3=>exact absurd g3 h3
    | long _ g2 _ g3=>exact absurd g3 h3
  | bad2 _ h1 h2 h3 h4 =>
    cases g with
    | odd=>omega
    | bad1 _ g1 g2=>exact absurd h2 g2.not
    | short _ g2 g3=>exact absurd h3 g3
    | bad2 _ _ g2 g3 g4=>exact ⟨rfl,rfl,h4.one g4⟩
    | long _ g2 g4 g3=>exact absurd g4 h4.not
  | long h1 h2 h4 h3 =>
    cases g with
    | odd=>omega
    | bad1 _ g1 g2=>exact absurd h2 g2.not
    | short _ g2 g3=>exact absurd h3 g3
    | bad2 _ _ g2 g3 g4=>exact absurd h4 g4.not
    | long _ g2 g4 g3=>exact ⟨rfl,rfl,rfl⟩
theorem num2_eq (M:Nat → Int) (a:Nat):numAt M a 2 = M a + M (a + 1) * 256:=by simp [numAt,getS,bytesAt,List.range_succ]
theorem num4_eq (M:Nat → Int) (a:Nat):numAt M a 4 = M a + M (a + 1) * 256 + M (a + 2) * 65536 + M (a + 3) * 16777216:=by simp [numAt,getS,bytesAt,List.range_succ]
theorem hnum2 {M:Nat → Int} (h:∀ x,0 ≤ M x∧M x ≤ 255) (a:Nat):0 ≤ numAt M a 2∧numAt M a 2 ≤ 65535:=by
  have h1:=h a
  have h2:=h (a + 1)
  rw [num2_eq];omega
theorem num42 {M:Nat → Int} (a:Nat):numAt M a 4 = numAt M a 2 + numAt M (a + 2) 2 * 65536:=by
  rw [num4_eq,num2_eq,num2_eq,show a + 2 + 1 = a + 3 from rfl];omega
theorem and3 {y:Int} (h0:0 ≤ y) (h1:y ≤ 65535):bits .and .u32 y 3 = y % 4:=by
  obtain ⟨n,rfl⟩:=Int.eq_ofNat_of_zero_le h0
  have h:=u32_and_nat n 3 (by omega) (by decide)
  rw [show ((3:Nat):Int) = 3 from rfl] at h
  rw [h,show (3:Nat) = 2 ^ 2 - 1 from rfl,Nat.and_two_pow_sub_one_eq_mod]
  omega
theorem or16 {u v:Int} (h0:0 ≤ u) (h1:u ≤ 65535) (h2:0 ≤ v) (h3:v ≤ 65535):bits .or .u32 (u * 65536 % 4294967296) v = v + u * 65536:=by
  obtain ⟨p,rfl⟩:=Int.eq_ofNat_of_zero_le h0
  obtain ⟨q,rfl⟩:=Int.eq_ofNat_of_zero_le h2
  have h:=u32_or_nat (p * 65536) q (by omega) (by omega)
  rw [nat_join 16 (p * 65536) q (by show p * 65536 % 65536 = 0;omega) (by show q < 65536;omega)] at h
  rw [show (p:Int) * 65536 % 4294967296 = ((p * 65536:Nat):Int) by omega,h]
  omega
section
variable {L:List Rg} {M:Nat → Int} {a:Nat} {y k x y2 k2 x2:Int}
theorem fetch_bad1 (ho:(a:Int) % 2 = 0) (h:HalfIs L M a y k x) (hk:¬ k = 0):FetchIs L M a y k x:=by
  rcases h with ⟨rfl,rfl,h⟩ | ⟨h,_⟩
  · exact .bad1 x (by omega) h
  · exact absurd h hk
theorem fetch_short (hb:∀ x,0 ≤ M x∧M x ≤ 255) (ho:(a:Int) % 2 = 0) (h:HalfIs L M a y 0 x) (h3:¬ bits .and .u32 y 3 = 3):FetchIs L M a y 0 x:=by
  rcases h with ⟨h,_⟩ | ⟨_,rfl,rfl,h⟩
  · cases h
  · have:=hnum2 hb a
    rw [and3 (by omega) (by omega)] at h3
    exact .short (by omega) h h3
theorem half_two (hb:∀ x,0 ≤ M x∧M x ≤ 255) (hs:So 0 274877906944 L) (h:HalfIs L M a y 0 x) (h3:bits .and .u32 y 3 = 3):Cans L 4 a 2∧numAt M a 2 % 4 = 3∧(a + 2) % 18446744073709551616 = a + 2∧y = numAt M a 2:=by
  rcases h with ⟨h,_⟩ | ⟨_,rfl,rfl,h⟩
  · cases h
  · have:=hnum2 hb a
    rw [and3 (by omega) (by omega)] at h3
    have:=can_under hs (h (a + 1) (by omega) (by omega))
    exact ⟨h,h3,by omega,rfl⟩
theorem fetch_bad2 (hb:∀ x,0 ≤ M x∧M x ≤ 255) (hs:So 0 274877906944 L) (ho:(a:Int) % 2 = 0) (h:HalfIs L M a y 0 x) (h3:bits .and .u32 y 3 = 3) (h2:HalfIs L M ((a + 2) % 18446744073709551616) y2 k2 x2) (hk:¬ k2 = 0):FetchIs L M a 0 k2 x2:=by
  obtain ⟨g1,g2,g3,_⟩:=half_two hb hs h h3
  rw [g3] at h2
  rcases h2 with ⟨rfl,rfl,h⟩ | ⟨h,_⟩
  · exact .bad2 x2 (by omega) g1 g2 h
  · exact absurd h hk
theorem fetch_long (hb:∀ x,0 ≤ M x∧M x ≤ 255) (hs:So 0 274877906944 L) (ho:(a:Int) % 2 = 0) (h:HalfIs L M a y 0 x) (h3:bits .and .u32 y 3 = 3) (h2:HalfIs L M ((a + 2) % 18446744073709551616) y2 0 x2):FetchIs L M a (bits .or .u32 (y2 * 65536 % 4294967296) y) 0 0:=by
  obtain ⟨g1,g2,g3,rfl⟩:=half_two hb hs h h3
  rw [g3] at h2
  rcases h2 with ⟨h,_⟩ | ⟨_,_,rfl,h⟩
  · cases h
  · have e1:=hnum2 hb a
    have e2:=hnum2 hb (a + 2)
    rw [or16 (by omega) (by omega) (by omega) (by omega),← num42]
    exact .long (by omega) g1 h g2
end
theorem half_is {T:Nat → Prop} {w:World} {sb n0:Nat} {L:List Rg} {M st:Nat → Int} {mo ba en:Int} (h:MS T w sb n0 L M st mo ba en) (a:Nat) (ha:a < 2 ^ 64) :
    Calls Tryz.prog 149 #[addr0 sb,.int .u64 (a:Int)] w fun e w'=>∃ y k x,e = .returned (.tuple #[.int .u32 y,faultV k x])∧HalfIs L M a y k x∧Bl w w':=by
  have cf:=fault_any (h.bl (Bl.new w (.cells #[.int .i64 0,.int .u64 0] 31))) 3 a 2 4 (by omega) (by omega) (by decide)
  have cn:=fun W (hW:Bl w W)=>number_any (h.bl hW) a 2 ha (by omega) (by omega)
  have hnb0:=hnum2 h.by_ a
  unfold HalfIs
  have HSO:=hid h.so
  have CF:=hid cf;clear cf h
  have CN:=hid cn;clear cn
  generalize numAt M a 2 = N at *
  obtain ⟨n0',n1'⟩:=hnb0
  unfold addr0 at *
  go_enter Tryz.func149,Tryz.ntmps149
  go_wp2_with fail
  refine CF.out.mono ?_
  rintro e w1 ⟨k,x,rfl,hh,kk⟩
  have hb:=new2 w w1 _ _ _ kk
  have k1:=(Bl.new w (.cells #[.int .i64 0,.int .u64 0] 31)).trans kk
  clear CF kk
  have HB:=hid hb;clear hb
  have K1:=hid k1;clear k1
  unfold faultV
  rcases hh with ⟨hk,hh⟩ | ⟨hk,hx,hh⟩
  · subst hk
    have WD:=hid hh
    clear hh
    go_wp2_with fail
    have hb2:=(Bl.new w1 (.cells #[.int .i64 3,.int .u64 x] 31)).at_ HB.out
    obtain ⟨d0,d1⟩:=two_cells hb2
    obtain ⟨d2,d3⟩:=two_cells (heap_alloc_new w1 (.cells #[.int .i64 3,.int .u64 x] 31))
    have f0:∀ i,(w1.alloc (.cells #[.int .i64 3,.int .u64 x] 31)).frozen? ⟨w.heap.size,i,none⟩ = false:=fun i=>by simp [World.frozen?,hb2]
    have f00:=f0 0
    have f01:=f0 1
    have HB2:=hid hb2;clear hb2
    have K2:=hid (K1.out.alloc (.cells #[.int .i64 3,.int .u64 x] 31))
    clear HB K1 f0 CN
    generalize w1.alloc (.cells #[.int .i64 3,.int .u64 x] 31) = W at *
    go_region
    all_goals (
      (try go_wp2_with fail)
      (try simp only [Exit.inBlock,Exit.then])
      refine bodyPost_ret (results_tmp_row rfl _ _ w.heap.size 31 _ (0,0) _ rfl (set2 _ _ HB2.out) Tryz.underlying31 rfl (by kernel_rfl)) rfl ?_
      exact ⟨0,3,x,rfl,.inl ⟨rfl,rfl,WD.out⟩,(K2.out.drew.set (Nat.le_refl _) _).set (Nat.le_refl _) _⟩)
  · subst hk hx
    have HH:=hid hh;clear hh
    go_wp2_with fail
    refine (CN.out _ (K1.out.alloc _)).mono ?_
    rintro e w2 ⟨rfl,k2⟩
    have hb2:=k2.at_ ((Bl.new w1 (.cells #[.int .i64 0,.int .u64 0] 31)).at_ HB.out)
    obtain ⟨d0,d1⟩:=two_cells hb2
    have f0:∀ i,w2.frozen? ⟨w.heap.size,i,none⟩ = false:=fun i=>by simp [World.frozen?,hb2]
    have f00:=f0 0
    have f01:=f0 1
    have HB2:=hid hb2;clear hb2
    have K2:=hid ((K1.out.alloc (.cells #[.int .i64 0,.int .u64 0] 31)).trans k2)
    clear HB K1 f0 CN k2
    go_wp2_with fail
    (try simp only [Exit.inBlock,Exit.then])
    refine bodyPost_ret (results_tmp_row rfl _ _ w.heap.size 31 _ (0,0) _ rfl (set2 _ _ HB2.out) Tryz.underlying31 rfl (by kernel_rfl)) rfl ?_
    exact ⟨_,0,0,rfl,.inr ⟨rfl,rfl,rfl,HH.out⟩,(K2.out.set (Nat.le_refl _) _).set (Nat.le_refl _) _⟩
theorem fetch_is {T:Nat → Prop} {w:World} {sb n0:Nat} {L:List Rg} {M st:Nat → Int} {mo ba en:Int} (h:MS T w sb n0 L M st mo ba en) (a:Nat) (ha:a < 2 ^ 64) :
    Calls Tryz.prog 122 #[addr0 sb,.int .u64 (a:Int)] w (FetchPost w L M a):=by
  have HBY:=hid h.by_
  have HSO:=hid h.so
  unfold addr0
  by_cases hodd:(a:Int) % 2 = 0
  · have t1:((a:Int) % 2 != 0) = false:=by simp [hodd]
    have c1:=half_is (h.bl (Bl.new w (.cells #[.int .i64 0,.int .u64 0] 31))) a ha
    have c2:=fun W (hW:Bl w W)=>half_is (h.bl hW) ((a + 2) % 18446744073709551616) (by omega)
    have C1:=hid c1;clear c1
    have C2:=hid c2;clear c2 h
    have HOD:=hid hodd;clear hodd
    unfold addr0 at *
    go_enter Tryz.func122,Tryz.ntmps122
    go_wp2_with fail
    refine C1.out.mono ?_
    rintro e w1 ⟨y,k,x,rfl,hi,kk⟩
    have HI:=hid hi;clear hi
    have hb:=new2 w w1 _ _ _ kk
    have k1:=(Bl.new w (.cells #[.int .i64 0,.int .u64 0] 31)).trans kk
    clear C1 kk
    have hb2:=(Bl.new w1 (.cells #[.int .i64 k,.int .u64 x] 31)).at_ hb
    have hb3:=heap_alloc_new w1 (.cells #[.int .i64 k,.int .u64 x] 31)
    have K2:=hid (k1.alloc (.cells #[.int .i64 k,.int .u64 x] 31))
    obtain ⟨d0,d1⟩:=two_cells hb2
    obtain ⟨d2,d3⟩:=two_cells hb3
    have fz:∀ i,(w1.alloc (.cells #[.int .i64 k,.int .u64 x] 31)).frozen? ⟨w.heap.size,i,none⟩ = false:=fun i=>by simp [World.frozen?,hb2]
    have f00:=fz 0
    have f01:=fz 1
    have HB2:=hid hb2
    have HB3:=hid hb3
    have hlt1:w.heap.size < w1.heap.size:=lt_at hb
    clear hb k1 hb2 hb3 fz
    unfold faultV
    by_cases hk:k = 0
    · subst hk
      by_cases hb:bits .and .u32 y 3 = 3
      · have tb:(bits .and .u32 y 3 != 3) = false:=by simp [hb]
        have e2:IntKind.u64.wrap ((a:Int) + 2) = (((a + 2) % 18446744073709551616:Nat):Int):=by rw [IntKind.wrap_u64];omega
        have HBB:=hid hb;clear hb
        have E2:=hid e2;clear e2
        go_wp2_with fail
        rw [E2.out]
        refine (C2.out _ K2.out).mono ?_
        rintro e w2 ⟨y2,k2,x2,rfl,hi2,kk2⟩
        have HI2:=hid hi2;clear hi2
        have hb4:=kk2.at_ HB2.out
        have hb5:=kk2.at_ HB3.out
        have K4:=hid (K2.out.trans kk2)
        clear d0 d1 d2 d3 f00 f01 C2 kk2
        obtain ⟨d0,d1⟩:=two_cells hb4
        obtain ⟨d2,d3⟩:=two_cells hb5
        have fz:∀ i,w2.frozen? ⟨w.heap.size,i,none⟩ = false:=fun i=>by simp [World.frozen?,hb4]
        have fy:∀ i,w2.frozen? ⟨w1.heap.size,i,none⟩ = false:=fun i=>by simp [World.frozen?,hb5]
        have f10:=fy 0
        have f11:=fy 1
        have hne:w.heap.size ≠ w1.heap.size:=by omega
        have hb6:((w2.setCell ⟨w1.heap.size,0,none⟩ (.int .i64 k2)).setCell ⟨w1.heap.size,1,none⟩ (.int .u64 x2)).heap[w.heap.size]? = some (.cells #[.int .i64 0,.int .u64 0] 31 (0,0)):=by
          rw [Below.heap_setCell _ _ _ _ hne,Below.heap_setCell _ _ _ _ hne];exact hb4
        have hb7:=set2 (.int .i64 k2) (.int .u64 x2) hb5
        have hsz:w.heap.size ≤ w1.heap.size:=by omega
        have K7:=hid ((K4.out.set (p:=⟨w1.heap.size,0,none⟩) hsz (.int .i64 k2)).set (p:=⟨w1.heap.size,1,none⟩) hsz (.int .u64 x2))
        have HB6:=hid hb6
        have HB7:=hid hb7
        clear hb6 hb7 hb4 hb5 fz fy
        unfold faultV
        go_upto_region 7 with (fail)
        clear d0 d1 d2 d3 f10 f11
        generalize (w2.setCell ⟨w1.heap.size,0,none⟩ (.int .i64 k2)).setCell ⟨w1.heap.size,1,none⟩ (.int .u64 x2) = W at *
        obtain ⟨d0,d1⟩:=two_cells HB6.out
        obtain ⟨d2,d3⟩:=two_cells HB7.out
        have fz:∀ i,W.frozen? ⟨w.heap.size,i,none⟩ = false:=fun i=>by simp [World.frozen?,HB6.out]
        have f00:=fz 0
        have f01:=fz 1
        clear fz
        by_cases hk2:k2 = 0
        · subst hk2
          go_wp2_with fail
          (try simp only [Exit.inBlock,Exit.then])
          refine bodyPost_ret (results_tmp_row rfl _ _ w.heap.size 31 _ (0,0) _ rfl (set2 _ _ HB6.out) Tryz.underlying31 rfl (by kernel_rfl)) rfl ?_
          exact ⟨_,0,0,rfl,fetch_long HBY.out HSO.out HOD.out HI.out HBB.out HI2.out,(K7.out.set (Nat.le_refl _) _).set (Nat.le_refl _) _⟩
        · have tk:(k2 != 0) = true:=by simp [hk2]
          have HK2:=hid hk2;clear hk2
          go_wp2_with fail
          go_region
          all_goals (
            (try go_wp2_with fail)
            (try simp only [Exit.inBlock,Exit.then])
            refine bodyPost_ret (results_tmp_row rfl _ _ w.heap.size 31 _ (0,0) _ rfl (set2 _ _ HB6.out) Tryz.underlying31 rfl (by kernel_rfl)) rfl ?_
            exact ⟨0,k2,x2,rfl,fetch_bad2 HBY.out HSO.out HOD.out HI.out HBB.out HI2.out HK2.out,(K7.out.drew.set (Nat.le_refl _) _).set (Nat.le_refl _) _⟩)
      · have tb:(bits .and .u32 y 3 != 3) = true:=by simp [hb]
        have HBB:=hid hb;clear hb C2
        go_wp2_with fail
        generalize w1.alloc (.cells #[.int .i64 0,.int .u64 x] 31) = W at *
        go_region
        all_goals (
          (try go_wp2_with fail)
          (try simp only [Exit.inBlock,Exit.then])
          refine bodyPost_ret (results_tmp_row rfl _ _ w.heap.size 31 _ (0,0) _ rfl (set2 _ _ HB2.out) Tryz.underlying31 rfl (by kernel_rfl)) rfl ?_
          exact ⟨y,0,x,rfl,fetch_short HBY.out HOD.out HI.out HBB.out,(K2.out.drew.set (Nat.le_refl _) _).set (Nat.le_refl _) _⟩)
    · have tk:(k != 0) = true:=by simp [hk]
      have HK:=hid hk;clear hk C2
      go_wp2_with fail
      generalize w1.alloc (.cells #[.int .i64 k,.int .u64 x] 31) = W at *
      go_region
      all_goals (
        (try go_wp2_with fail)
        (try simp only [Exit.inBlock,Exit.then])
        refine bodyPost_ret (results_tmp_row rfl _ _ w.heap.size 31 _ (0,0) _ rfl (set2 _ _ HB2.out) Tryz.underlying31 rfl (by kernel_rfl)) rfl ?_
        exact ⟨y,k,x,rfl,fetch_bad1 HOD.out HI.out HK.out,(K2.out.drew.set (Nat.le_refl _) _).set (Nat.le_refl _) _⟩)
  · have t1:((a:Int) % 2 != 0) = true:=by simp [hodd]
    clear h
    go_enter Tryz.func122,Tryz.ntmps122
    go_wp2_with fail
    (try simp only [Exit.inBlock,Exit.then])
    refine bodyPost_ret (results_tmp_row rfl _ _ w.heap.size 31 _ (0,0) _ rfl (heap_alloc_new w _) Tryz.underlying31 rfl (by kernel_rfl)) rfl ?_
    exact ⟨0,3,a,rfl,.odd (by omega),Bl.new _ _⟩
end Go.Proofs.YtlhpodholnfppaaGreatDoor

namespace Go.Proofs.YtlhpodholnfppaaGreatDoor.Td
open Go.RowKit

structure Kp (o:Option Nat) (w w':World):Prop where
  os:w'.os = w.os
  tape:w'.tape = w.tape
  output:w'.output = w.output
  size:w.heap.size ≤ w'.heap.size
  frozen:∀ a,w'.frozen? a = w.frozen? a
  block:∀ k,k < w.heap.size → some k ≠ o → w'.heap[k]? = w.heap[k]?

theorem Kp.refl (o:Option Nat) (w:World):Kp o w w:=⟨rfl,rfl,rfl,Nat.le_refl _,fun _=>rfl,fun _ _ _=>rfl⟩
theorem Kp.trans {o:Option Nat} {a b c:World} (h:Kp o a b) (k:Kp o b c):Kp o a c:=
  ⟨k.os.trans h.os,k.tape.trans h.tape,k.output.trans h.output,Nat.le_trans h.size k.size,fun x=>(k.frozen x).trans (h.frozen x),
   fun i hi hn=>(k.block i (Nat.lt_of_lt_of_le hi h.size) hn).trans (h.block i hi hn)⟩
theorem Kp.drew {o:Option Nat} {a w:World} (h:Kp o a w):Kp o a w.drew:=⟨h.os,h.tape,h.output,h.size,h.frozen,h.block⟩
theorem Kp.drewN {o:Option Nat} {a w:World} (h:Kp o a w) (n:Nat):Kp o a (w.drewN n):=⟨h.os,h.tape,h.output,h.size,h.frozen,h.block⟩
theorem Kp.alloc {o:Option Nat} {a w:World} (h:Kp o a w) (c:Array Value) (t:TypeId):Kp o a (w.alloc (.cells c t)):=
  h.trans ⟨rfl,rfl,rfl,by simp,fun x=>frozen?_alloc_cells _ _ _ x,fun k hk _=>Below.heap_alloc _ _ _ hk⟩
theorem Kp.setCell {o:Option Nat} {a w:World} (h:Kp o a w) {p:Addr} (hp:a.heap.size ≤ p.block ∨ some p.block = o) (u:Value):Kp o a (w.setCell p u):=
  ⟨h.os,h.tape,h.output,by simpa [World.setCell] using h.size,fun x=>(World.frozen?_setCell _ _ _ _).trans (h.frozen x),
   fun k hk hn => (Below.heap_setCell _ _ _ _ (fun e => by subst e; rcases hp with hp | hp; · omega
                                                           · exact hn hp)).trans (h.block k hk hn)⟩
theorem Kp.keeps {o:Option Nat} {w w':World} (h:Kp o w w') {k:Nat} {b:Obj} (hb:w.heap[k]? = some b) (hn:some k ≠ o):w'.heap[k]? = some b:=by
  have hlt:k < w.heap.size:=by
    rcases Nat.lt_or_ge k w.heap.size with h | h
    · exact h
    · rw [Array.getElem?_eq_none h] at hb;cases hb
  rw [h.block k hlt hn];exact hb
theorem lt_of_at {w:World} {k:Nat} {b:Obj} (hb:w.heap[k]? = some b):k < w.heap.size:=by
  rcases Nat.lt_or_ge k w.heap.size with h | h
  · exact h
  · rw [Array.getElem?_eq_none h] at hb;cases hb

def Has (w:World) (b:Nat) (t:TypeId) (cs:Array Value):Prop:=w.heap[b]? = some (.cells cs t (0,0))
theorem Has.lt {w:World} {b:Nat} {t:TypeId} {cs:Array Value} (h:Has w b t cs):b < w.heap.size:=lt_of_at h
theorem Has.cell {w:World} {b:Nat} {t:TypeId} {cs:Array Value} (h:Has w b t cs) (i:Nat):w.cell? ⟨b,i,none⟩ = cs[i]?:=by
  have h':w.heap[b]? = some (.cells cs t (0,0)):=h
  simp [World.cell?,h']
theorem Has.free {w:World} {b:Nat} {t:TypeId} {cs:Array Value} (h:Has w b t cs) (i:Nat):w.frozen? ⟨b,i,none⟩ = false:=by
  have h':w.heap[b]? = some (.cells cs t (0,0)):=h
  simp [World.frozen?,h']
theorem Has.kp {o:Option Nat} {w w':World} {b:Nat} {t:TypeId} {cs:Array Value} (h:Has w b t cs) (k:Kp o w w') (hn:some b ≠ o):Has w' b t cs:=k.keeps h hn
theorem Has.drew {w:World} {b:Nat} {t:TypeId} {cs:Array Value} (h:Has w b t cs):Has w.drew b t cs:=h
theorem Has.new (w:World) (c:Array Value) (t:TypeId):Has (w.alloc (.cells c t)) w.heap.size t c:=(MapKept.heap_alloc w _).1
theorem Has.alloc {w:World} {b:Nat} {t:TypeId} {cs:Array Value} (h:Has w b t cs) (o:Obj):Has (w.alloc o) b t cs:=(Below.heap_alloc _ _ _ h.lt).trans h
theorem Has.other {w:World} {b:Nat} {t:TypeId} {cs:Array Value} (h:Has w b t cs) {p:Addr} (hp:b ≠ p.block) (u:Value):Has (w.setCell p u) b t cs:=(Below.heap_setCell _ _ _ _ hp).trans h
theorem Has.set {w:World} {b:Nat} {t:TypeId} {cs:Array Value} (h:Has w b t cs) (i:Nat) (u:Value):Has (w.setCell ⟨b,i,none⟩ u) b t (cs.setIfInBounds i u):=by
  have h':w.heap[b]? = some (.cells cs t (0,0)):=h
  show (w.setCell ⟨b,i,none⟩ u).heap[b]? = _
  simp only [World.setCell,Array.getElem?_modify,if_pos,h',Option.map_some]
  simp
end Go.Proofs.YtlhpodholnfppaaGreatDoor.Td

namespace Go.Proofs.YtlhpodholnfppaaGreatDoor.Td
open Go.RowKit

theorem ret_int {k:IntKind} {a b:Int} (h:a = b):Ending.returned (.int k a) = .returned (.int k b):=by rw [h]
theorem ret_bool {a b:Bool} (h:a = b):Ending.returned (.bool a) = .returned (.bool b):=by rw [h]
def sextI (x b:Int):Int:=if 1 ≤ b∧b ≤ 64 then sx x b.toNat else x

theorem sext_in (x:Int) (n:Nat) (w:World) (h1:(1:Int) ≤ n) (h2:(n:Int) ≤ 64) :
    Calls Tryz.prog 129 #[.int .u64 x,.int .i64 n] w fun e w'=>e = .returned (.int .u64 (sx x n))∧w = w':=by
  have hs:=hid (shifts x n (by omega) (by omega))
  go_enter Tryz.func129,Tryz.ntmps129
  go_wp2
  go_ret
  exact ⟨ret_int (by rw [hs.out]),rfl⟩

def pc (s a m:Nat):Nat:=s / 2 ^ a % 2 ^ m
theorem pc_lt (s a m:Nat):pc s a m < 2 ^ m:=Nat.mod_lt _ (Nat.two_pow_pos m)
theorem pc_le (s a m:Nat) (hs:s < 4294967296):pc s a m < 4294967296:=Nat.lt_of_le_of_lt (Nat.le_trans (Nat.mod_le _ _) (Nat.div_le_self _ _)) hs

theorem piece_any (s a m:Nat) (w:World) (hs:s < 4294967296) (ha:a ≤ 31) (hm:m ≤ 20) :
    Calls Tryz.prog 195 #[.int .u32 s,.int .i64 a,.int .i64 m] w fun e w'=>e = .returned (.int .u32 (pc s a m))∧∃ k,w' = w.drewN k:=by
  have h0:(0:Int) ≤ (a:Int):=by omega
  have h1:(0:Int) ≤ (m:Int):=by omega
  go_enter Tryz.func195,Tryz.ntmps195
  go_wp2_with fail
  go_quiet (fail)
  go_wp2
  go_ret
  refine ⟨ret_int ?_,_,rfl⟩
  have hp:0 < 2 ^ m:=Nat.two_pow_pos m
  have hp2:2 ^ m ≤ 2 ^ 20:=Nat.pow_le_pow_right (by decide) hm
  have e1:((2:Int) ^ m - 1) % 4294967296 = ((2 ^ m - 1:Nat):Int):=by
    rw [Int.natCast_sub hp,Int.natCast_pow]
    exact Int.emod_eq_of_lt (by have:=pow_pos' m;omega) (by have:(2:Int) ^ m ≤ 2 ^ 20:=(by exact_mod_cast hp2);omega)
  have e2:(s:Int) / 2 ^ a = ((s / 2 ^ a:Nat):Int):=by simp
  rw [e1,e2,u32_and_nat _ _ (Nat.lt_of_le_of_lt (Nat.div_le_self _ _) hs) (by omega),Nat.and_two_pow_sub_one_eq_mod]
  rfl

theorem taker_any (s:Nat) (w:World):Calls Tryz.prog 172 #[.int .u32 s] w fun e w'=>e = .returned (.func (.func 209) #[] #[.pointer (some ⟨w.heap.size,0,none⟩)])∧Has w' w.heap.size 39 #[.int .u32 s]∧Kp none w w':=by
  have hmf:∀ (fn:Fn) (first cap:Array Value) (w:World),(Instr.makeFunc fn first cap).run Tryz.prog w = .ok (.func fn first cap) w:=fun _ _ _ _=>rfl
  go_enter Tryz.func172,Tryz.ntmps172
  go_wp2
  go_ret
  exact ⟨rfl,Has.new _ _ _,(Kp.refl _ _).alloc _ _⟩

theorem shl_pc (s a m k:Nat) (hm:m + k ≤ 33):wrap64 (((pc s a m:Nat):Int) * 2 ^ k) = ((pc s a m * 2 ^ k:Nat):Int):=by
  have h1:=pc_lt s a m
  have h2:pc s a m * 2 ^ k < 2 ^ 33:=by
    calc pc s a m * 2 ^ k < 2 ^ m * 2 ^ k:=Nat.mul_lt_mul_of_pos_right h1 (Nat.two_pow_pos k)
      _ = 2 ^ (m + k):=(Nat.pow_add 2 m k).symm
      _ ≤ 2 ^ 33:=Nat.pow_le_pow_right (by decide) hm
  have e:((pc s a m:Nat):Int) * 2 ^ k = ((pc s a m * 2 ^ k:Nat):Int):=by simp
  rw [e]
  generalize pc s a m * 2 ^ k = t at *
  unfold wrap64;omega

def tk (s a m k:Nat):Int:=(pc s a m * 2 ^ k:Nat)
theorem take_any (n:Int) (s a m k c:Nat) (w:World) (hs:s < 4294967296) (ha:a ≤ 31) (hm:m ≤ 20) (hk:k ≤ 20) (hmk:m + k ≤ 33) (hc:Has w c 39 #[.int .u32 s]) :
    Calls Tryz.prog 209 #[.int .i64 n,.int .i64 a,.int .i64 m,.int .i64 k,.pointer (some ⟨c,0,none⟩)] w fun e w'=>e = .returned (.int .i64 (tk s a m k))∧Kp none w w':=by
  have h0:(0:Int) ≤ (k:Int):=by omega
  have c0:=hc.cell 0
  simp at c0
  have hl:=hid (shl_pc s a m k hmk)
  go_enter Tryz.func209,Tryz.ntmps209
  go_wp2_with fail
  refine (piece_any s a m _ hs ha hm).mono ?_
  rintro e w' ⟨rfl,q,rfl⟩
  have hb:=pc_le s a m hs
  go_wp2
  go_ret
  exact ⟨ret_int hl.out,(Kp.refl _ _).drewN _⟩

theorem sx_back (n:Int) (b:Nat) (h1:1 ≤ b) (h2:b ≤ 64):wrap64 (sx (IntKind.u64.wrap n) b) = low n b:=by
  have e:low (IntKind.u64.wrap n) b = low n b:=by
    obtain ⟨q,hq⟩:=low_eq n b
    refine low_unique _ _ (q + 2 ^ (64 - b) * (-(n / 18446744073709551616))) b h1 ?_ (low_lo n b) (low_hi n b h1)
    rw [Int.mul_add,← Int.mul_assoc,Int.mul_comm (2 ^ b) (2 ^ (64 - b)),pow64 b h2,IntKind.wrap_u64]
    omega
  have hm:=(low_mono b 64 h1 h2).1
  have hl:=low_lo n b
  have hh:=low_hi n b h1
  simp at hm
  unfold sx;rw [e];unfold wrap64
  omega
theorem signed_any (n:Int) (b:Nat) (w:World) (h1:(1:Int) ≤ b) (h2:(b:Int) ≤ 64) :
    Calls Tryz.prog 233 #[.int .i64 n,.int .i64 b] w fun e w'=>e = .returned (.int .i64 (low n b))∧w = w':=by
  go_enter Tryz.func233,Tryz.ntmps233
  go_wp2_with fail
  refine (sext_in _ b _ h1 h2).mono ?_
  rintro e w' ⟨rfl,rfl⟩
  go_wp2
  go_ret
  exact ⟨ret_int (sx_back n b (by omega) (by omega)),rfl⟩

end Go.Proofs.YtlhpodholnfppaaGreatDoor.Td

namespace Go.Proofs.YtlhpodholnfppaaGreatDoor.Td
open Go.RowKit

end Go.Proofs.YtlhpodholnfppaaGreatDoor.Td
