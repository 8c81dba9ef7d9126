/-
  Plain facts on whole numbers, as words of 64 bits: filled by a sign, products' upper halves, quotients. No program in sight.
  Slices of bytes as lists of numbers: what a slice reads as, kept while only new memory is made; appending to memory of the call's own. Over any program.
  Contracts of the functions that lay words as bytes and read them back, of the program and of the reference.
  Closed facts of the program's types: a page of bytes, maps of pages and of stamps.
  Contracts of the functions that lay words behind bytes, of the program and of the reference.
  Regions as a list: in order, apart, joined; which places they have; what is laid over a span. Plain mathematics.
-/
import Derived.WalkKit
import Derived.WalkSpells
import Derived.WalkLawsBesides
import Derived.Lib.Hide
import Derived.Laws.AppendOwnNone
import Derived.Laws.CopyOwn
import Derived.Test.YtlhpodholnfppaaGreatDoorRows
import Derived.Deep.QuietTactic
import Derived.BigQuiet
import Derived.Maps.RangeWalk
import Derived.Maps.OwnOps
set_option linter.unusedVariables false
set_option linter.unusedSimpArgs false
set_option maxHeartbeats 16000000
open Go.Lib (hid)
namespace Go.Proofs.YtlhpodholnfppaaGreatDoor
open Go.RowKit

theorem pow_pos' (n:Nat):(0:Int) < 2 ^ n:=Int.pow_pos (by decide)
theorem pow_half (b:Nat) (h:1 ≤ b):(2:Int) ^ b = 2 * 2 ^ (b - 1):=by
  have e:b = 1 + (b - 1):=by omega
  rw [e,Int.pow_add];simp
theorem pow64 (b:Nat) (h:b ≤ 64):(2:Int) ^ (64 - b) * 2 ^ b = 18446744073709551616:=by
  rw [← Int.pow_add,show 64 - b + b = 64 by omega];rfl
theorem pow63 (b:Nat) (h:1 ≤ b) (h':b ≤ 64):(2:Int) ^ (64 - b) * 2 ^ (b - 1) = 9223372036854775808:=by
  rw [← Int.pow_add,show 64 - b + (b - 1) = 63 by omega];rfl

def low (x:Int) (b:Nat):Int:=(x + 2 ^ (b - 1)) % 2 ^ b - 2 ^ (b - 1)
def sx (x:Int) (b:Nat):Int:=low x b % 18446744073709551616

theorem low_lo (x:Int) (b:Nat):-(2 ^ (b - 1)) ≤ low x b:=by
  have h:=Int.emod_nonneg (x + 2 ^ (b - 1)) (Int.ne_of_gt (pow_pos' b))
  unfold low;omega
theorem low_hi (x:Int) (b:Nat) (h:1 ≤ b):low x b < 2 ^ (b - 1):=by
  have h1:=Int.emod_lt_of_pos (x + 2 ^ (b - 1)) (pow_pos' b)
  have h2:=pow_half b h
  unfold low;omega
theorem low_eq (x:Int) (b:Nat):∃ q,x = low x b + 2 ^ b * q:=by
  refine ⟨(x + 2 ^ (b - 1)) / 2 ^ b,?_⟩
  have h:=Int.emod_add_mul_ediv (x + 2 ^ (b - 1)) (2 ^ b)
  unfold low;omega
theorem low_unique (x y q:Int) (b:Nat) (h:1 ≤ b) (he:x = y + 2 ^ b * q) (h1:-(2 ^ (b - 1)) ≤ y) (h2:y < 2 ^ (b - 1)):low x b = y:=by
  have h3:=pow_half b h
  unfold low
  rw [he,show y + 2 ^ b * q + 2 ^ (b - 1) = (y + 2 ^ (b - 1)) + 2 ^ b * q by omega,Int.add_mul_emod_self_left,Int.emod_eq_of_lt (by omega) (by omega)]
  omega
theorem sx_bd (x:Int) (b:Nat):0 ≤ sx x b∧sx x b < 18446744073709551616:=by unfold sx;omega
theorem low_mono (p q:Nat) (h:1 ≤ p) (hpq:p ≤ q):(2:Int) ^ (p - 1) ≤ 2 ^ (q - 1)∧(2:Int) ^ q = 2 ^ p * 2 ^ (q - p):=by
  constructor
  · have e:(2:Int) ^ (q - 1) = 2 ^ (p - 1) * 2 ^ (q - p):=by rw [← Int.pow_add];congr 1;omega
    have h1:=pow_pos' (p - 1)
    have h2:=pow_pos' (q - p)
    rw [e]
    have:=Int.mul_le_mul_of_nonneg_left (show (1:Int) ≤ 2 ^ (q - p) by omega) (Int.le_of_lt h1)
    omega
  · rw [← Int.pow_add];congr 1;omega
theorem shifts (x:Int) (b:Nat) (h1:1 ≤ b) (h2:b ≤ 64):IntKind.u64.wrap (wrap64 (IntKind.u64.wrap (x * 2 ^ (64 - b))) / 2 ^ (64 - b)) = sx x b:=by
  have hP:=pow_pos' (64 - b)
  have h64:=pow64 b h2
  have h63:=pow63 b h1 h2
  obtain ⟨q,hq⟩:=low_eq x b
  have hl:=low_lo x b
  have hh:=low_hi x b h1
  have e1:x * 2 ^ (64 - b) = low x b * 2 ^ (64 - b) + 18446744073709551616 * q:=by
    rw [← h64,Int.mul_assoc,Int.mul_comm (2 ^ (64 - b)) (2 ^ b * q),← Int.add_mul,← hq]
  have a1:=Int.mul_le_mul_of_nonneg_right hl (Int.le_of_lt hP)
  have a2:=Int.mul_le_mul_of_nonneg_right (show low x b + 1 ≤ 2 ^ (b - 1) by omega) (Int.le_of_lt hP)
  rw [Int.neg_mul,Int.mul_comm (2 ^ (b - 1)),h63] at a1
  rw [Int.add_mul,Int.mul_comm (2 ^ (b - 1)),h63] at a2
  have e2:wrap64 (IntKind.u64.wrap (x * 2 ^ (64 - b))) = low x b * 2 ^ (64 - b):=by
    rw [IntKind.wrap_u64,e1];unfold wrap64
    generalize low x b * 2 ^ (64 - b) = t at *
    omega
  rw [e2,Int.mul_ediv_cancel _ (Int.ne_of_gt hP),IntKind.wrap_u64]
  rfl

end Go.Proofs.YtlhpodholnfppaaGreatDoor

namespace Go.Proofs.YtlhpodholnfppaaGreatDoor
open Go.RowKit

def asBytes (xs:List Int):List Value:=xs.map (Value.int .u8)
theorem asBytes_length (xs:List Int):(asBytes xs).length = xs.length:=by simp [asBytes]
theorem asBytes_append (xs ys:List Int):asBytes (xs ++ ys) = asBytes xs ++ asBytes ys:=by simp [asBytes]
theorem asBytes_get (xs:List Int) (j:Nat) (u:Value) (h:(asBytes xs)[j]? = some u):j < xs.length∧u = .int .u8 (xs.getD j 0):=by
  unfold asBytes at h
  rw [List.getElem?_map] at h
  rcases hx:xs[j]? with _ | x
  · rw [hx] at h;simp at h
  · rw [hx] at h
    have hj:j < xs.length:=by
      rcases Nat.lt_or_ge j xs.length with h1 | h1
      · exact h1
      · rw [List.getElem?_eq_none h1] at hx;cases hx
    simp at h
    exact ⟨hj,by rw [← h,List.getD_eq_getElem?_getD,hx];rfl⟩
theorem asBytes_at (xs:List Int) (j:Nat) (h:j < xs.length):(asBytes xs)[j]? = some (.int .u8 (xs.getD j 0)):=by
  unfold asBytes
  rw [List.getElem?_map,List.getElem?_eq_getElem h,List.getD_eq_getElem?_getD,List.getElem?_eq_getElem h];rfl

def Rd (w:World) (A:Option Addr) (xs:List Int):Prop:=
  0 < xs.length → ∃ ad,A = some ad∧∀ i,i < xs.length → w.cell? (ad.add i) = some (.int .u8 (xs.getD i 0))

section
variable {w w':World} {A:Option Addr} {xs:List Int}
theorem Rd.at_ (h:Rd w A xs) (k:Nat) (hk:k < xs.length) :
    ∃ b off,A = some ⟨b,off,none⟩∧w.cell? ⟨b,off + k,none⟩ = some (.int .u8 (xs.getD k 0)):=by
  obtain ⟨ad,rfl,hc⟩:=h (by omega)
  have h1:=hc k hk
  have h0:=hc 0 (by omega)
  obtain ⟨b,off,spot⟩:=ad
  have hspot:spot = none:=by simpa [Addr.add] using World.cell?_spot h0
  subst hspot
  refine ⟨b,off,rfl,?_⟩
  by_cases hk0:k = 0
  · subst hk0;simpa [Addr.add] using h1
  · simpa [Addr.add,hk0] using h1
theorem add_block (a:Addr) (n:Nat):(a.add n).block = a.block:=by unfold Addr.add;split <;> rfl
theorem Rd.nil_:Rd w A []:=fun h=>absurd h (by simp)
theorem Rd.below (h:Rd w A xs) (hb:Below w.heap.size w w'):Rd w' A xs:=by
  intro h0
  obtain ⟨ad,rfl,hc⟩:=h h0
  refine ⟨ad,rfl,fun i hi=>?_⟩
  have h1:=hc i hi
  rw [hb.cell (block_lt_of_cell h1)]
  exact h1
theorem Rd.cells (h:Rd w A xs) (ad:Addr) (hA:A = some ad):∀ j u,(asBytes xs)[j]? = some u → w.cell? (ad.add j) = some u:=by
  intro j u hu
  obtain ⟨hj,rfl⟩:=asBytes_get xs j u hu
  obtain ⟨ad',h',hc⟩:=h (by omega)
  rw [hA] at h';cases h'
  exact hc j hj
theorem Rd.of_own {base e n:Nat} {v:Value} (h:w.ownsRow base e 1 v n (asBytes xs)):∃ A c,v = .slice A n c∧Rd w A xs∧n = xs.length∧(A = none → c = 0)∧n ≤ c:=by
  have hn:n = xs.length:=by have:=h.1;rw [asBytes_length] at this;omega
  rcases h.2 with ⟨rfl,h0⟩ | ⟨g,cap,cur,rfl,hb,hh,hnc,hcm,hcs,ht⟩
  · subst h0
    exact ⟨none,0,rfl,fun hx=>absurd hx (by omega),hn,fun _=>rfl,Nat.le_refl _⟩
  · refine ⟨_,_,rfl,fun _=>⟨_,rfl,fun i hi=>?_⟩,hn,(fun h=>by cases h),hnc⟩
    have:=h.cells (g:=g) rfl i _ (asBytes_at xs i hi)
    exact this
theorem Rd.drop (h:Rd w A xs) (k cap:Nat) (hk:k ≤ xs.length) (hc:xs.length ≤ cap):Rd w (if cap = k then A else A.map (·.add k)) (xs.drop k):=by
  intro h0
  rw [List.length_drop] at h0
  obtain ⟨ad,rfl,hcell⟩:=h (by omega)
  rw [if_neg (by omega)]
  refine ⟨_,rfl,fun i hi=>?_⟩
  rw [List.length_drop] at hi
  have h1:=hcell (k + i) (by omega)
  have e:(ad.add k).add i = ad.add (k + i):=by
    unfold Addr.add;by_cases a0:k = 0 <;> by_cases b0:i = 0 <;> simp [a0,b0,Nat.add_assoc]
  rw [e,h1,List.getD_eq_getElem?_getD,List.getD_eq_getElem?_getD,List.getElem?_drop]
end

theorem bytes_one (xs:List Int):∀ u ∈ asBytes xs,u.oneCell' = true:=ints_oneCell .u8 xs

theorem wpl_append {P:Program} {w:World} {ops:Array Oper} {rest:List Oper} {o:Oper} {a:Act} {Q:Exit → Act → World → Prop} (hgd:o.guard = none) (s x:Operand) (t:TypeId)
    (ho:o.op = .call { callee:=.builtin .append,args:=#[s,x],argTypes:=#[t,t] })
    (base:Nat) (e:TypeId) (i:TypeInfo) (ht:P.underlying t = some (.slice e)) (hi:P.info? e = some i) (hz:i.zero = some (.int .u8 0)) (hsize:i.size = 1) (hby:i.bytes = 1)
    (v:Value) (n:Nat) (xs:List Int) (hs:a.eval s = v) (hown:w.ownsRow base e 1 v n (asBytes xs))
    (A:Option Addr) (m c:Nat) (news:List Int) (hx:a.eval x = .slice A m c) (hr:Rd w A news) (hl:news.length = m) (hc:A = none → c = 0)
    (h63:n + m ≤ 1000000000) (hbase:base ≤ w.heap.size)
    (h:∀ v' w',w'.ownsRow base e 1 v' (n + m) (asBytes (xs ++ news)) → w.grownBy w' v.ownBlock → wpList P ops Q rest (a.put o.dst v') w'):wpList P ops Q (o :: rest) a w:=by
  rcases A with _ | ad
  · have hm:news = []:=by
      rcases Nat.eq_zero_or_pos news.length with h0 | h0
      · exact List.eq_nil_of_length_eq_zero h0
      · obtain ⟨_,h',_⟩:=hr h0;cases h'
    subst hm
    obtain rfl:m = 0:=by simpa using hl.symm
    obtain rfl:=hc rfl
    refine wpList_append_own_none hgd s x t ho base e i 1 ht hi v n (asBytes xs) hs hown hx ?_
    exact h v w (by simpa using hown) (World.grownBy.refl w _)
  · refine wpList_append_own w hgd s x t ho base e i (.int .u8 0) 1 1 ht hi hz hsize hby rfl (by omega) v n (asBytes xs) hs hown ad m c (asBytes news) hx (by rw [asBytes_length,hl,Nat.mul_one]) (hr.cells ad rfl) (bytes_one news) (by simp only [maxLen];omega) (by omega) hbase ?_
    intro v' w' h1 h2 _
    exact h v' w' (by rw [asBytes_append];exact h1) h2

theorem wpl_append_run {P:Program} {w w1:World} {ops:Array Oper} {rest:List Oper} {o:Oper} {a:Act} {Q:Exit → Act → World → Prop} (hw:Region.wanted o (yielded ops a.tmps) = true) (s x:Operand) (t:TypeId)
    (ho:o.op = .call { callee:=.builtin .append,args:=#[s,x],argTypes:=#[t,t] }) (v vx v1:Value) (hs:a.eval s = v) (hx:a.eval x = vx)
    (hrun:(Builtin.append_ #[t,t] o.type #[v,vx]).run P w = .ok v1 w1) (h:wpList P ops Q rest (a.put o.dst v1) w1):wpList P ops Q (o :: rest) a w:=by
  refine BigFrame.wpList_want hw fun K hK=>?_
  unfold Oper.wp
  simp [execOp,ho,resolve,invoke,builtin,hs,hx,hrun,Result.andThen]
  exact hK _ _ h

theorem run_copied {P:Program} (W:World) (t e:TypeId) (ty:TypeId) (ht:P.underlying t = some (.slice e)) (hsz:(P.info? e).map (·.size) = some 1)
    (base g len c:Nat) (cur:Array Value) (hg:W.heap[g]? = some (.cells cur e (0,0))) (hcs:cur.size = c) (hlc:len ≤ c) (hcm:c ≤ maxLen) (hbg:base ≤ g)
    (A:Option Addr) (cap:Nat) (xs:List Int) (hr:Rd W A xs) (hl:xs.length = len) :
    ∃ w2,(Builtin.copy_ #[t,t] ty #[.slice (some ⟨g,0,none⟩) len c,.slice A len cap]).run P W = .ok (.int .i64 (len:Int)) w2 ∧
      w2.ownsRow base e 1 (.slice (some ⟨g,0,none⟩) len c) len (asBytes xs)∧W.grownBy w2 (some g):=by
  by_cases h0:len = 0
  · subst h0
    obtain rfl:xs = []:=List.eq_nil_of_length_eq_zero hl
    exact ⟨W,run_copy_none (P:=P) W t t ty e _ _ 0 c 0 cap ht hsz rfl,⟨by simp [asBytes],.inr ⟨g,c,cur,rfl,hbg,hg,hlc,hcm,by omega,by simp [asBytes]⟩⟩,World.grownBy.refl _ _⟩
  · obtain ⟨ad,rfl,_⟩:=hr (by omega)
    have hcl:(asBytes xs).length = len:=by rw [asBytes_length,hl]
    have hrun:=run_copy_row (P:=P) W t t ty e g 0 len c ad len cap cur e (asBytes xs) ht hsz hg (by rw [hcl];exact (Nat.min_self _).symm) (hr.cells ad rfl) (by omega) (bytes_one xs)
    rw [hcl] at hrun
    refine ⟨_,hrun,⟨by omega,.inr ⟨g,c,_,rfl,hbg,setRow_heap W g _ _ e _ hg,hlc,hcm,?_,?_⟩⟩,?_⟩
    · simp [hcl];omega
    · simp [hcl]
    · exact ⟨rfl,rfl,rfl,by simp [World.setRow],fun k _ hne=>setRow_other W g k _ (fun e=>hne (by rw [e]))⟩
end Go.Proofs.YtlhpodholnfppaaGreatDoor

namespace Go.Proofs.YtlhpodholnfppaaGreatDoor
open Go.RowKit
theorem count_any (n:Int) (w:World):Calls Tryz.prog 176 #[.int .i64 n] w fun e w'=>e = .returned (.bool (decide (1 ≤ n∧n ≤ 8)))∧w = w':=by
  by_cases h:1 ≤ n
  · have e:decide (1 ≤ n∧n ≤ 8) = decide (n ≤ 8):=by simp [h]
    rw [e];clear e
    go_enter Tryz.func176,Tryz.ntmps176
    go_wp2
    go_ret
    exact ⟨rfl,rfl⟩
  · have e:decide (1 ≤ n∧n ≤ 8) = false:=by simp [h]
    rw [e];clear e
    go_enter Tryz.func176,Tryz.ntmps176
    go_wp2
    go_ret
    exact ⟨rfl,rfl⟩

def getS (xs:List Int):Nat → Int
  | 0=>0
  | k + 1=>getS xs k + xs.getD k 0 * 2 ^ (8 * k)
theorem getS_bd (xs:List Int) (hb:∀ k,0 ≤ xs.getD k 0∧xs.getD k 0 ≤ 255) (k:Nat):0 ≤ getS xs k∧getS xs k < 2 ^ (8 * k):=by
  induction k with
  | zero=>simp [getS]
  | succ k ih =>
    have hp:=pow_pos' (8 * k)
    have hx:=hb k
    have e:(2:Int) ^ (8 * (k + 1)) = 256 * 2 ^ (8 * k):=by rw [show 8 * (k + 1) = 8 + 8 * k by omega,Int.pow_add];rfl
    have h1:=Int.mul_nonneg hx.1 (Int.le_of_lt hp)
    have h2:=Int.mul_le_mul_of_nonneg_right hx.2 (Int.le_of_lt hp)
    unfold getS
    rw [e]
    omega
theorem pow_le56 (k:Nat) (h:k ≤ 56):(2:Int) ^ k ≤ 72057594037927936:=by
  have:=(low_mono (k + 1) 57 (by omega) (by omega)).1
  simpa using this
theorem byte_up (x:Int) (k:Nat) (hk:k < 8) (hx:0 ≤ x∧x ≤ 255):IntKind.u64.wrap (x * 2 ^ (8 * k)) = x * 2 ^ (8 * k):=by
  have hp:=pow_pos' (8 * k)
  have hq:=pow_le56 (8 * k) (by omega)
  have h1:=Int.mul_nonneg hx.1 (Int.le_of_lt hp)
  have h2:=Int.mul_le_mul_of_nonneg_right hx.2 (Int.le_of_lt hp)
  exact IntWalk.u64_in _ (by omega)
theorem or_byte (xs:List Int) (hb:∀ k,0 ≤ xs.getD k 0∧xs.getD k 0 ≤ 255) (k:Nat) (hk:k < 8) :
    bits .or .u64 (getS xs k) (IntKind.u64.wrap (xs.getD k 0 * 2 ^ (8 * k))) = getS xs (k + 1):=by
  obtain ⟨h0,h1⟩:=getS_bd xs hb k
  have hx:=hb k
  rw [byte_up _ k hk hx]
  show _ = getS xs k + xs.getD k 0 * 2 ^ (8 * k)
  have hp:=pow_pos' (8 * k)
  have hq:=pow_le56 (8 * k) (by omega)
  have h3:=Int.mul_nonneg hx.1 (Int.le_of_lt hp)
  have h4:=Int.mul_le_mul_of_nonneg_right hx.2 (Int.le_of_lt hp)
  generalize getS xs k = g at *
  generalize xs.getD k 0 = x at *
  obtain ⟨G,rfl⟩:=Int.eq_ofNat_of_zero_le h0
  obtain ⟨X,rfl⟩:=Int.eq_ofNat_of_zero_le hx.1
  have e2:(2:Int) ^ (8 * k) = ((2 ^ (8 * k):Nat):Int):=by simp
  rw [e2,← Int.natCast_mul] at h3 h4 ⊢
  rw [e2] at h1 hq
  rw [u64_or_nat G (X * 2 ^ (8 * k)) (by omega) (by omega),Nat.or_comm,nat_join (8 * k) (X * 2 ^ (8 * k)) G (Nat.mul_mod_left _ _) (by omega),Nat.add_comm,Int.natCast_add]

theorem get_in (A:Option Addr) (len cap:Nat) (xs:List Int) (n:Nat) (w:World) (hr:Rd w A xs) (hl:xs.length = len) (hm:len ≤ 100000) (h1:1 ≤ n) (h8:n ≤ 8)
   (hb:∀ k,0 ≤ xs.getD k 0∧xs.getD k 0 ≤ 255) :
    Calls Tryz.prog 175 #[.slice A len cap,.int .i64 n] w fun e w'=>e = .returned (.int .u64 (getS xs (min n len)))∧w = w':=by
  have HR:=hid hr;clear hr
  have HL:=hid hl;clear hl
  have HB:=hid hb;clear hb
  have e1:decide (1 ≤ (n:Int)∧(n:Int) ≤ 8) = true:=by simp;omega
  have E1:=hid e1;clear e1
  by_cases hc:len < n
  · rw [Nat.min_eq_right (by omega)]
    go_enter Tryz.func175,Tryz.ntmps175
    go_wp2_with fail
    refine (count_any _ _).mono ?_
    rintro e w' ⟨rfl,rfl⟩
    rw [E1.out]
    go_wp2
    go_loop [5,14] (fun x i=>∃ k:Nat,k ≤ len∧i = .int .i64 k∧x = .int .u64 (getS xs k)) (fun _ i=>len - (intOf i).toNat)
    case atStart=>exact ⟨0,by omega,rfl,rfl⟩
    case round =>
      obtain ⟨k,hk,rfl,rfl⟩:=hrel
      by_cases hlt:k < len
      · obtain ⟨b,off,hA,hcell⟩:=HR.out.at_ k (by rw [HL.out];omega)
        subst hA
        have hx:=HB.out k
        have ho:=hid (or_byte xs HB.out k (by omega))
        generalize xs.getD k 0 = x at *
        have hin:(k:Int) < (len:Int):=by omega
        go_wp2
        go_round
        case rel=>exact ⟨k + 1,by omega,by go_num,by rw [← ho.out]⟩
        case measure=>simp [intOf];omega
      · obtain rfl:k = len:=by omega
        go_wp2
        go_ret
        exact ⟨rfl,rfl⟩
  · rw [Nat.min_eq_left (by omega)]
    go_enter Tryz.func175,Tryz.ntmps175
    go_wp2_with fail
    refine (count_any _ _).mono ?_
    rintro e w' ⟨rfl,rfl⟩
    rw [E1.out]
    go_wp2
    go_loop [5,14] (fun x i=>∃ k:Nat,k ≤ n∧i = .int .i64 k∧x = .int .u64 (getS xs k)) (fun _ i=>n - (intOf i).toNat)
    case atStart=>exact ⟨0,by omega,rfl,rfl⟩
    case round =>
      obtain ⟨k,hk,rfl,rfl⟩:=hrel
      by_cases hlt:k < n
      · obtain ⟨b,off,hA,hcell⟩:=HR.out.at_ k (by rw [HL.out];omega)
        subst hA
        have hx:=HB.out k
        have ho:=hid (or_byte xs HB.out k (by omega))
        generalize xs.getD k 0 = x at *
        have hin:(k:Int) < (len:Int):=by omega
        go_wp2
        go_round
        case rel=>exact ⟨k + 1,by omega,by go_num,by rw [← ho.out]⟩
        case measure=>simp [intOf];omega
      · obtain rfl:k = n:=by omega
        go_wp2
        go_ret
        exact ⟨rfl,rfl⟩

end Go.Proofs.YtlhpodholnfppaaGreatDoor

namespace Go.Proofs.YtlhpodholnfppaaGreatDoor
open Go.RowKit
set_option maxRecDepth 100000
theorem law27:Maps.Keyed Tryz.prog 29:=Maps.int_keyed Tryz.underlying29
theorem zero44 (w:World):(zeroValue 145).run Tryz.prog w = .ok (.pointer none) w:=by kernel_rfl
def zeros:Array Value:=(asBytes (List.replicate 4096 0)).toArray
theorem info53:(Tryz.prog.info? 173).map (fun i=>(i.zero,i.size)) = some (some (.agg zeros),4096):=by kernel_rfl
theorem infoByte:(Tryz.prog.info? 5).map (fun i=>(i.zero,i.size,i.bytes)) = some (some (.int .u8 0),1,1):=by kernel_rfl
theorem sizeByte:(Tryz.prog.info? 5).map (·.size) = some 1:=by kernel_rfl
end Go.Proofs.YtlhpodholnfppaaGreatDoor

namespace Go.Proofs.YtlhpodholnfppaaGreatDoor
open Go.RowKit
set_option maxRecDepth 100000
def putB (x:Int) (k:Nat):List Int:=(List.range k).map fun i=>x / 2 ^ (8 * i) % 256
theorem putB_length (x:Int) (k:Nat):(putB x k).length = k:=by simp [putB]
theorem putB_succ (x:Int) (k:Nat):putB x (k + 1) = putB x k ++ [x / 2 ^ (8 * k) % 256]:=by simp [putB,List.range_succ]
theorem own_empty (w:World):(w.alloc (.cells #[] 5)).ownsRow w.heap.size 5 1 (.slice (some ⟨w.heap.size,0,none⟩) 0 0) 0 (asBytes []):=
  World.ownsRow_lit w #[] 0 (Nat.le_refl _) (by simp [maxLen]) (by simp)
theorem Rd.alloc {w:World} {A:Option Addr} {xs:List Int} (h:Rd w A xs) (o:Obj):Rd (w.alloc o) A xs:=h.below ((Below.refl _ _).alloc (Nat.le_refl _) o)
theorem own_block_ge {w:World} {base e n:Nat} {v:Value} {xs:List Value} (h:w.ownsRow base e 1 v n xs):∀ k,v.ownBlock = some k → base ≤ k:=fun k hk=>(h.lt k hk).1
theorem one_cell (w:World) (y:Int):Rd (w.alloc (.cells #[.int .u8 y] 5)) (some ⟨w.heap.size,0,none⟩) [y]:=by
  intro _
  refine ⟨_,rfl,fun i hi=>?_⟩
  obtain rfl:i = 0:=by simpa using hi
  simp [Addr.add]

theorem refPut_in (A:Option Addr) (len cap:Nat) (xs:List Int) (x:Int) (n:Nat) (w:World) (hr:Rd w A xs) (hl:xs.length = len) (hc:A = none → cap = 0) (hm:len ≤ 5100) (h1:1 ≤ n) (h8:n ≤ 8) :
    Calls Tryz.prog 16 #[.slice A len cap,.int .u64 x,.int .i64 n] w fun e w'=>∃ B c,e = .returned (.slice B (len + n) c)∧Rd w' B (xs ++ putB x n)∧Below w.heap.size w w':=by
  obtain ⟨i0,hi0,hz0,hz1,hz2⟩:=info_parts infoByte
  have HR:=hid hr;clear hr
  have HL:=hid hl;clear hl
  have HC:=hid hc;clear hc
  have J0:=hid hi0;clear hi0
  have J1:=hid hz0;clear hz0
  have J2:=hid hz1;clear hz1
  have J3:=hid hz2;clear hz2
  go_enter Tryz.func16,Tryz.ntmps16
  go_wp2_with (at_builtin;refine wpl_append rfl (.tmp 9) (.tmp 10) 22 rfl w.heap.size 5 i0 Tryz.underlying22 J0.out J1.out J2.out J3.out _ 0 [] rfl (own_empty w) A len cap xs rfl (HR.out.alloc _) HL.out HC.out (by omega) (by simp) ?_;intro v1 w1 hown1 hg1;have HO1:=hid hown1;clear hown1)
  have hbel:Below w.heap.size w w1:=((Below.refl _ _).alloc (Nat.le_refl _) _).grown hg1 (by simp) (own_block_ge (own_empty w))
  clear hg1
  go_loopw [7,8] (fun v i wr=>∃ k:Nat,k ≤ n∧i = .int .i64 k∧wr.ownsRow w.heap.size 5 1 v (len + k) (asBytes (xs ++ putB x k))∧Below w.heap.size w wr) (fun _ i _=>n - (intOf i).toNat)
  case atStart=>exact ⟨0,by omega,rfl,by simpa [putB] using HO1.out,hbel⟩
  case round =>
    obtain ⟨k,hk,rfl,hown,hbr⟩:=hrel
    clear hbel HO1
    have HO:=hid hown;clear hown
    by_cases hlt:k < n
    · go_wp2_with (at_builtin;refine wpl_append rfl (.tmp 24) (.tmp 31) 22 rfl w.heap.size 5 i0 Tryz.underlying22 J0.out J1.out J2.out J3.out _ (len + k) (xs ++ putB x k) rfl (HO.out.alloc _) (some ⟨wr.heap.size,0,none⟩) 1 1 [x / 2 ^ (8 * k) % 256] rfl (one_cell wr _) rfl (fun h=>by cases h) (by omega) (by have:=hbr.size;simp;omega) ?_;intro v2 w2 hown2 hg2)
      have hsz:=hbr.size
      have hb2:Below w.heap.size w w2:=(hbr.alloc hsz _).grown hg2 (by simp;omega) (own_block_ge HO.out)
      go_roundw
      case rel=>exact ⟨k + 1,by omega,by go_num,by rw [putB_succ,← List.append_assoc];exact hown2,hb2⟩
      case measure=>simp [intOf];omega
    · obtain rfl:k = n:=by omega
      go_wp2
      go_ret
      obtain ⟨B,c,rfl,hrd,_,_⟩:=Rd.of_own HO.out
      exact ⟨B,c,rfl,hrd,hbr⟩

theorem run_made (len c:Nat) (i:TypeInfo) (hi:Tryz.prog.info? 5 = some i) (hz:i.zero = some (.int .u8 0)) (hs:i.size = 1) (hb:i.bytes = 1) (hlc:len ≤ c) (hc:c ≤ 1000000) (w:World) :
    (Instr.makeSlice 22 (.int .i64 (len:Int)) (.int .i64 (c:Int))).run Tryz.prog w = .ok (.slice (some ⟨w.heap.size,0,none⟩) len c) (w.alloc (.cells (madeCells #[.int .u8 0] c) 5)):=by
  have h:=run_make (P:=Tryz.prog) w 22 5 i (.int .u8 0) Tryz.underlying22 hi hz .i64 .i64 len c (by omega) (by omega) (by rw [hb];omega) (by omega)
  simpa [hs,Value.cells] using h
theorem put_in (A:Option Addr) (len cap:Nat) (xs:List Int) (x:Int) (n:Nat) (w:World) (hr:Rd w A xs) (hl:xs.length = len) (hm:len ≤ 5100) (h1:1 ≤ n) (h8:n ≤ 8) :
    Calls Tryz.prog 156 #[.slice A len cap,.int .u64 x,.int .i64 n] w fun e w'=>∃ B c,e = .returned (.slice B (len + n) c)∧Rd w' B (xs ++ putB x n)∧Below w.heap.size w w'∧len + n ≤ c∧∀ ad,B = some ad → w.heap.size ≤ ad.block:=by
  obtain ⟨i0,hi0,hz0,hz1,hz2⟩:=info_parts infoByte
  have hmk:=fun W=>run_made len (len + n) i0 hi0 hz0 hz1 hz2 (by omega) (by omega) W
  have HR:=hid hr;clear hr
  have HL:=hid hl;clear hl
  have J0:=hid hi0;clear hi0
  have J1:=hid hz0;clear hz0
  have J2:=hid hz1;clear hz1
  have J3:=hid hz2;clear hz2
  have e1:decide (1 ≤ (n:Int)∧(n:Int) ≤ 8) = true:=by simp;omega
  have E1:=hid e1;clear e1
  have ec:((len + n:Nat):Int) = (len:Int) + (n:Int):=by omega
  rw [ec] at hmk;clear ec
  obtain ⟨w2,hcp,hown,hgr⟩:=run_copied (P:=Tryz.prog) (w.alloc (.cells (madeCells #[.int .u8 0] (len + n)) 5)) 22 5 3 Tryz.underlying22 sizeByte w.heap.size w.heap.size len (len + n) _ (heap_alloc_new w _) (size_madeCells _ _) (by omega) (by simp only [maxLen];omega) (Nat.le_refl _) A cap xs (HR.out.alloc _) HL.out
  have hbel:Below w.heap.size w w2:=((Below.refl _ _).alloc (Nat.le_refl _) _).grown hgr (by simp) (fun k hk=>by injection hk with hk;omega)
  clear hgr
  have HO1:=hid hown;clear hown
  have HBL:=hid hbel;clear hbel
  go_enter Tryz.func156,Tryz.ntmps156
  go_wp2_with fail
  refine (count_any _ _).mono ?_
  rintro e w' ⟨rfl,rfl⟩
  rw [E1.out]
  go_wp2_with fail
  clear hcp hmk
  go_loopw [7,23] (fun v i wr=>∃ k:Nat,k ≤ n∧i = .int .i64 k∧wr.ownsRow w.heap.size 5 1 v (len + k) (asBytes (xs ++ putB x k))∧Below w.heap.size w wr) (fun _ i _=>n - (intOf i).toNat)
  case atStart=>exact ⟨0,by omega,rfl,by simpa [putB] using HO1.out,HBL.out⟩
  case round =>
    obtain ⟨k,hk,rfl,hown,hbr⟩:=hrel
    clear HBL HO1
    have HO:=hid hown;clear hown
    by_cases hlt:k < n
    · go_wp2_with (at_builtin;refine wpl_append rfl (.tmp 26) (.tmp 32) 22 rfl w.heap.size 5 i0 Tryz.underlying22 J0.out J1.out J2.out J3.out _ (len + k) (xs ++ putB x k) rfl (HO.out.alloc _) (some ⟨wr.heap.size,0,none⟩) 1 1 [x / 2 ^ (8 * k) % 256] rfl (one_cell wr _) rfl (fun h=>by cases h) (by omega) (by have:=hbr.size;simp;omega) ?_;intro v2 w3 hown2 hg2)
      have hsz:=hbr.size
      have hb2:Below w.heap.size w w3:=(hbr.alloc hsz _).grown hg2 (by simp;omega) (own_block_ge HO.out)
      go_roundw
      case rel=>exact ⟨k + 1,by omega,by go_num,by rw [putB_succ,← List.append_assoc];exact hown2,hb2⟩
      case measure=>simp [intOf];omega
    · obtain rfl:k = n:=by omega
      go_wp2
      go_ret
      obtain ⟨B,c,rfl,hrd,_,_,hcc⟩:=Rd.of_own HO.out
      exact ⟨B,c,rfl,hrd,hbr,hcc,fun ad hB=>own_block_ge HO.out ad.block (by rw [hB];rfl)⟩

theorem putB_get (x:Int) (n k:Nat) (h:k < n):(putB x n).getD k 0 = x / 2 ^ (8 * k) % 256:=by
  simp [putB,List.getElem?_range h]
theorem putB_bd (x:Int) (n k:Nat):0 ≤ (putB x n).getD k 0∧(putB x n).getD k 0 ≤ 255:=by
  by_cases h:k < n
  · rw [putB_get x n k h];omega
  · rw [List.getD_eq_getElem?_getD,List.getElem?_eq_none (by rw [putB_length];omega)];simp
end Go.Proofs.YtlhpodholnfppaaGreatDoor

namespace Go.Proofs.YtlhpodholnfppaaGreatDoor

structure Rg where
  s:Int
  e:Int
  p:Int

theorem Rg.eq {a b:Rg} (h1:a.s = b.s) (h2:a.e = b.e) (h3:a.p = b.p):a = b:=by
  cases a;cases b;simp_all

def In (L:List Rg) (a p:Int):Prop:=∃ r,r ∈ L∧r.s ≤ a∧a < r.e∧r.p = p

def Nm (lo hi:Int) (L:List Rg):Prop:=
  L.Pairwise (fun r q=>r.e ≤ q.s∧(r.e = q.s → r.p ≠ q.p))∧∀ r,r ∈ L → lo ≤ r.s∧r.s < r.e∧r.e ≤ hi
def So (lo hi:Int) (L:List Rg):Prop:=
  L.Pairwise (fun r q=>r.e ≤ q.s)∧∀ r,r ∈ L → lo ≤ r.s∧r.s < r.e∧r.e ≤ hi
def Al (L:List Rg):Prop:=∀ r,r ∈ L → r.s % 4096 = 0∧r.e % 4096 = 0

theorem Nm.so {lo hi:Int} {L:List Rg} (h:Nm lo hi L):So lo hi L:=⟨h.1.imp fun h=>h.1,h.2⟩
theorem Nm.nil (lo hi:Int):Nm lo hi []:=⟨List.Pairwise.nil,fun r h=>by cases h⟩
theorem Al.nil:Al []:=fun r h=>by cases h
theorem In_nil (a p:Int):¬ In [] a p:=fun ⟨_,h,_⟩=>by cases h
theorem In_append {A B:List Rg} {a p:Int}:In (A ++ B) a p ↔ In A a p ∨ In B a p:=by
  constructor
  · rintro ⟨r,hr,h⟩
    rcases List.mem_append.1 hr with h1 | h1
    · exact .inl ⟨r,h1,h⟩
    · exact .inr ⟨r,h1,h⟩
  · rintro (⟨r,hr,h⟩ | ⟨r,hr,h⟩)
    · exact ⟨r,List.mem_append_left _ hr,h⟩
    · exact ⟨r,List.mem_append_right _ hr,h⟩
theorem In_one {r:Rg} {a p:Int}:In [r] a p ↔ r.s ≤ a∧a < r.e∧r.p = p:=by
  constructor
  · rintro ⟨q,hq,h⟩;rw [List.mem_singleton] at hq;subst hq;exact h
  · intro h;exact ⟨r,List.mem_singleton_self _,h⟩
theorem In_cons {r:Rg} {L:List Rg} {a p:Int}:In (r :: L) a p ↔ (r.s ≤ a∧a < r.e∧r.p = p) ∨ In L a p:=by
  rw [show r :: L = [r] ++ L from rfl,In_append,In_one]
theorem Nm.mono {lo hi lo' hi':Int} {L:List Rg} (h:Nm lo hi L) (h1:lo' ≤ lo) (h2:hi ≤ hi'):Nm lo' hi' L:=
  ⟨h.1,fun r hr=>by have:=h.2 r hr;omega⟩
theorem So.mono {lo hi lo' hi':Int} {L:List Rg} (h:So lo hi L) (h1:lo' ≤ lo) (h2:hi ≤ hi'):So lo' hi' L:=
  ⟨h.1,fun r hr=>by have:=h.2 r hr;omega⟩
theorem Nm.tail {lo hi:Int} {r:Rg} {L:List Rg} (h:Nm lo hi (r :: L)):Nm r.e hi L:=by
  obtain ⟨h1,h2⟩:=h
  rw [List.pairwise_cons] at h1
  refine ⟨h1.2,fun q hq=>?_⟩
  have:=h1.1 q hq
  have h3:=h2 q (List.mem_cons_of_mem _ hq)
  omega
theorem So.tail {lo hi:Int} {r:Rg} {L:List Rg} (h:So lo hi (r :: L)):So r.e hi L:=by
  obtain ⟨h1,h2⟩:=h
  rw [List.pairwise_cons] at h1
  refine ⟨h1.2,fun q hq=>?_⟩
  have:=h1.1 q hq
  have h3:=h2 q (List.mem_cons_of_mem _ hq)
  omega
theorem So.range {lo hi:Int} {L:List Rg} (h:So lo hi L) {a p:Int} (hi':In L a p):lo ≤ a∧a < hi:=by
  obtain ⟨r,hr,h1,h2,h3⟩:=hi'
  have:=h.2 r hr
  omega
theorem So.one {lo hi:Int} {L:List Rg} (h:So lo hi L) {a p q:Int} (h1:In L a p) (h2:In L a q):p = q:=by
  induction L generalizing lo with
  | nil=>exact absurd h1 (In_nil _ _)
  | cons r L ih =>
    have ht:=h.tail
    rcases In_cons.1 h1 with a1 | a1 <;> rcases In_cons.1 h2 with a2 | a2
    · omega
    · have:=ht.range a2;omega
    · have:=ht.range a1;omega
    · exact ih ht a1 a2

theorem unique {lo hi lo' hi':Int} {L M:List Rg} (h:Nm lo hi L) (k:Nm lo' hi' M) (e:∀ a p,In L a p ↔ In M a p):L = M:=by
  induction L generalizing lo lo' M with
  | nil =>
    cases M with
    | nil=>rfl
    | cons q M =>
      have h1:=k.2 q (List.mem_cons_self ..)
      exact absurd ((e q.s q.p).2 (In_cons.2 (.inl ⟨by omega,by omega,rfl⟩))) (In_nil _ _)
  | cons r L ih =>
    cases M with
    | nil =>
      have h1:=h.2 r (List.mem_cons_self ..)
      exact absurd ((e r.s r.p).1 (In_cons.2 (.inl ⟨by omega,by omega,rfl⟩))) (In_nil _ _)
    | cons q M =>
      have hr:=h.2 r (List.mem_cons_self ..)
      have hq:=k.2 q (List.mem_cons_self ..)
      have htl:=h.tail
      have htm:=k.tail
      have s1:q.s ≤ r.s:=by
        rcases In_cons.1 ((e r.s r.p).1 (In_cons.2 (.inl ⟨by omega,by omega,rfl⟩))) with a1 | a1
        · omega
        · have:=htm.so.range a1;omega
      have s2:r.s ≤ q.s:=by
        rcases In_cons.1 ((e q.s q.p).2 (In_cons.2 (.inl ⟨by omega,by omega,rfl⟩))) with a1 | a1
        · omega
        · have:=htl.so.range a1;omega
      have hs:r.s = q.s:=by omega
      have hp:r.p = q.p:=by
        rcases In_cons.1 ((e r.s r.p).1 (In_cons.2 (.inl ⟨by omega,by omega,rfl⟩))) with a1 | a1
        · omega
        · have:=htm.so.range a1;omega
      have e1:q.e ≤ r.e:=by
        rcases Int.lt_or_le r.e q.e with h1 | h1
        · exfalso
          rcases In_cons.1 ((e r.e q.p).2 (In_cons.2 (.inl ⟨by omega,by omega,rfl⟩))) with a1 | ⟨x,hx,b1,b2,b3⟩
          · omega
          · have:=(List.pairwise_cons.1 h.1).1 x hx
            exact this.2 (by omega) (by omega)
        · exact h1
      have e2:r.e ≤ q.e:=by
        rcases Int.lt_or_le q.e r.e with h1 | h1
        · exfalso
          rcases In_cons.1 ((e q.e r.p).1 (In_cons.2 (.inl ⟨by omega,by omega,rfl⟩))) with a1 | ⟨x,hx,b1,b2,b3⟩
          · omega
          · have:=(List.pairwise_cons.1 k.1).1 x hx
            exact this.2 (by omega) (by omega)
        · exact h1
      have hh:r = q:=Rg.eq hs (by omega) hp
      subst hh
      congr 1
      refine ih htl htm fun a p=>⟨fun hin=>?_,fun hin=>?_⟩
      · have:=htl.so.range hin
        rcases In_cons.1 ((e a p).1 (In_cons.2 (.inr hin))) with a1 | a1
        · omega
        · exact a1
      · have:=htm.so.range hin
        rcases In_cons.1 ((e a p).2 (In_cons.2 (.inr hin))) with a1 | a1
        · omega
        · exact a1

def tot:List Rg → Int
  | []=>0
  | r :: L=>(r.e - r.s) + tot L
theorem tot_append (A B:List Rg):tot (A ++ B) = tot A + tot B:=by
  induction A with
  | nil=>simp [tot]
  | cons r A ih=>simp only [List.cons_append,tot,ih];omega
theorem So.tot_le {lo hi:Int} {L:List Rg} (h:So lo hi L) (hl:lo ≤ hi):0 ≤ tot L∧tot L ≤ hi - lo:=by
  induction L generalizing lo with
  | nil=>simp only [tot];omega
  | cons r L ih =>
    have hr:=h.2 r (List.mem_cons_self ..)
    have:=ih h.tail (by omega)
    simp only [tot];omega
theorem Al.tail {r:Rg} {L:List Rg} (h:Al (r :: L)):Al L:=fun q hq=>h q (List.mem_cons_of_mem _ hq)
theorem Al.tot {L:List Rg} (ha:Al L):tot L % 4096 = 0:=by
  induction L with
  | nil=>rfl
  | cons r L ih =>
    have hra:=ha r (List.mem_cons_self ..)
    have:=ih ha.tail
    simp only [YtlhpodholnfppaaGreatDoor.tot];omega
open Classical in
noncomputable def joinOne (L:List Rg) (r:Rg):List Rg:=
  match L.getLast? with
  | some q=>if q.e = r.s∧q.p = r.p then L.dropLast ++ [⟨q.s,r.e,q.p⟩] else L ++ [r]
  | none=>[r]
noncomputable def join (L M:List Rg):List Rg:=M.foldl joinOne L
theorem joinOne_nil (r:Rg):joinOne [] r = [r]:=rfl
theorem joinOne_yes (L:List Rg) (q r:Rg) (h1:q.e = r.s) (h2:q.p = r.p):joinOne (L ++ [q]) r = L ++ [⟨q.s,r.e,q.p⟩]:=by
  simp [joinOne,h1,h2]
theorem joinOne_no (L:List Rg) (q r:Rg) (h:¬ (q.e = r.s∧q.p = r.p)):joinOne (L ++ [q]) r = L ++ [q] ++ [r]:=by
  simp only [joinOne,List.getLast?_concat]
  rw [if_neg h]
theorem last_cases (L:List Rg):L = [] ∨ ∃ A q,L = A ++ [q]:=by
  rcases List.eq_nil_or_concat L with h | ⟨A,q,h⟩
  · exact .inl h
  · exact .inr ⟨A,q,by simpa using h⟩
theorem joinOne_all {lo hi:Int} {L:List Rg} {r:Rg} (h:Nm lo hi L) (h1:lo ≤ r.s) (h2:r.s < r.e) (h3:∀ q,q ∈ L → q.e ≤ r.s) (h4:r.e ≤ hi) :
    Nm lo hi (joinOne L r)∧(∀ q,q ∈ joinOne L r → q.e ≤ r.e)∧(∀ a p,In (joinOne L r) a p ↔ In L a p ∨ In [r] a p)∧tot (joinOne L r) = tot L + (r.e - r.s)∧(Al L → r.s % 4096 = 0 → r.e % 4096 = 0 → Al (joinOne L r))∧(joinOne L r).length ≤ L.length + 1∧joinOne L r ≠ []:=by
  rcases last_cases L with rfl | ⟨A,q,rfl⟩
  · rw [joinOne_nil]
    refine ⟨⟨List.pairwise_singleton _ _,fun q hq=>?_⟩,fun q hq=>?_,fun a p=>?_,by simp [tot],fun _ a1 a2 q hq=>?_,by simp,by simp⟩
    · rw [List.mem_singleton] at hq;subst hq;omega
    · rw [List.mem_singleton] at hq;subst hq;omega
    · simp [In_nil]
    · rw [List.mem_singleton] at hq;subst hq;exact ⟨a1,a2⟩
  · have hq:=h.2 q (by simp)
    have hqr:=h3 q (by simp)
    obtain ⟨p1,p2,p3⟩:=List.pairwise_append.1 h.1
    have hA:∀ x,x ∈ A → x.e ≤ q.s∧(x.e = q.s → x.p ≠ q.p):=fun x hx=>p3 x hx q (by simp)
    by_cases hc:q.e = r.s∧q.p = r.p
    · rw [joinOne_yes A q r hc.1 hc.2]
      refine ⟨⟨List.pairwise_append.2 ⟨p1,List.pairwise_singleton _ _,fun x hx y hy=>?_⟩,fun x hx=>?_⟩,fun x hx=>?_,fun a p=>?_,?_,fun ha a1 a2 x hx=>?_,by simp,by simp⟩
      · rw [List.mem_singleton] at hy;subst hy;exact hA x hx
      · rcases List.mem_append.1 hx with hx | hx
        · have:=h.2 x (List.mem_append_left _ hx);omega
        · rw [List.mem_singleton] at hx;subst hx;simp only;omega
      · rcases List.mem_append.1 hx with hx | hx
        · have:=hA x hx;omega
        · rw [List.mem_singleton] at hx;subst hx;simp only;omega
      · rw [In_append,In_append,In_one,In_one,In_one]
        obtain ⟨c1,c2⟩:=hc
        simp only
        constructor
        · rintro (h1 | ⟨b1,b2,b3⟩)
          · exact .inl (.inl h1)
          · by_cases h5:a < q.e
            · exact .inl (.inr ⟨b1,h5,b3⟩)
            · exact .inr ⟨by omega,b2,by omega⟩
        · rintro ((h1 | ⟨b1,b2,b3⟩) | ⟨b1,b2,b3⟩)
          · exact .inl h1
          · exact .inr ⟨b1,by omega,b3⟩
          · exact .inr ⟨by omega,b2,by omega⟩
      · rw [tot_append,tot_append];simp only [tot];omega
      · rcases List.mem_append.1 hx with hx | hx
        · exact ha x (List.mem_append_left _ hx)
        · rw [List.mem_singleton] at hx;subst hx;exact ⟨(ha q (by simp)).1,a2⟩
    · rw [joinOne_no A q r hc]
      refine ⟨⟨List.pairwise_append.2 ⟨h.1,List.pairwise_singleton _ _,fun x hx y hy=>?_⟩,fun x hx=>?_⟩,fun x hx=>?_,fun a p=>by rw [In_append],?_,fun ha a1 a2 x hx=>?_,by simp,by simp⟩
      · rw [List.mem_singleton] at hy;subst hy
        refine ⟨h3 x hx,fun he hp=>?_⟩
        rcases List.mem_append.1 hx with hx | hx
        · have:=hA x hx;omega
        · rw [List.mem_singleton] at hx;subst hx;exact hc ⟨he,hp⟩
      · rcases List.mem_append.1 hx with hx | hx
        · have:=h.2 x hx;omega
        · rw [List.mem_singleton] at hx;subst hx;omega
      · rcases List.mem_append.1 hx with hx | hx
        · have:=h3 x hx;omega
        · rw [List.mem_singleton] at hx;subst hx;omega
      · rw [tot_append];simp only [tot];omega
      · rcases List.mem_append.1 hx with hx | hx
        · exact ha x hx
        · rw [List.mem_singleton] at hx;subst hx;exact ⟨a1,a2⟩
theorem join_all {lo hi:Int} {L M:List Rg} (h:Nm lo hi L) (k:So lo hi M) (hb:∀ q r,q ∈ L → r ∈ M → q.e ≤ r.s) :
    Nm lo hi (join L M)∧(∀ a p,In (join L M) a p ↔ In L a p ∨ In M a p)∧tot (join L M) = tot L + tot M∧(Al L → Al M → Al (join L M))∧(join L M).length ≤ L.length + M.length∧(L ≠ [] ∨ M ≠ [] → join L M ≠ [])∧(∀ b,(∀ q,q ∈ L → q.e ≤ b) → (∀ q,q ∈ M → q.e ≤ b) → ∀ q,q ∈ join L M → q.e ≤ b):=by
  induction M generalizing L with
  | nil=>exact ⟨h,fun a p=>by simp [join,In_nil],by simp [join,tot],fun a _=>a,by simp [join],fun h=>by simpa [join] using h,fun b h1 _=>h1⟩
  | cons r M ih =>
    have hr:=k.2 r (List.mem_cons_self ..)
    obtain ⟨a1,a2,a3,a4,a5,a6,a7⟩:=joinOne_all h hr.1 hr.2.1 (fun q hq=>hb q r hq (List.mem_cons_self ..)) hr.2.2
    have kt:=k.tail
    obtain ⟨b1,b2,b3,b4,b5,b6,b7⟩:=ih a1 ⟨kt.1,fun q hq=>k.2 q (List.mem_cons_of_mem _ hq)⟩ (fun q x hq hx=>by
      have:=a2 q hq
      have:=kt.2 x hx
      omega)
    refine ⟨b1,fun a p=>?_,?_,fun c1 c2=>?_,?_,fun _=>b6 (.inl a7),fun b c1 c2=>?_⟩
    · show In (join (joinOne L r) M) a p ↔ _
      rw [b2,a3,In_one,In_cons,or_assoc]
    · show tot (join (joinOne L r) M) = _
      rw [b3,a4];simp only [tot];omega
    · have:=c2 r (List.mem_cons_self ..)
      exact b4 (a5 c1 this.1 this.2) c2.tail
    · show (join (joinOne L r) M).length ≤ _
      simp only [List.length_cons];omega
    · refine b7 b (fun q hq=>?_) (fun q hq=>c2 q (List.mem_cons_of_mem _ hq))
      have:=a2 q hq
      have:=c2 r (List.mem_cons_self ..)
      omega

open Classical in
noncomputable def clip (a b:Int) (r:Rg):Option Rg:=if max r.s a < min r.e b then some ⟨max r.s a,min r.e b,r.p⟩ else none
noncomputable def within (L:List Rg) (a b:Int):List Rg:=L.filterMap (clip a b)
theorem clip_some {a b:Int} {r q:Rg} (h:clip a b r = some q):q.s = max r.s a∧q.e = min r.e b∧q.p = r.p∧q.s < q.e:=by
  unfold clip at h
  split at h
  · cases h;exact ⟨rfl,rfl,rfl,by assumption⟩
  · cases h
theorem within_mem {L:List Rg} {a b:Int} {q:Rg}:q ∈ within L a b ↔ ∃ r,r ∈ L∧clip a b r = some q:=by
  simp [within,List.mem_filterMap]
theorem within_so {lo hi a b:Int} {L:List Rg} (h:So lo hi L):So a b (within L a b):=by
  refine ⟨?_,fun q hq=>?_⟩
  · refine List.Pairwise.filterMap (R:=fun r q=>r.e ≤ q.s) (clip a b) (fun r q hrq r' hr' q' hq'=>?_) h.1
    obtain ⟨a1,a2,a3,a4⟩:=clip_some hr'
    obtain ⟨b1,b2,b3,b4⟩:=clip_some hq'
    omega
  · obtain ⟨r,hr,hc⟩:=within_mem.1 hq
    obtain ⟨a1,a2,a3,a4⟩:=clip_some hc
    omega
theorem within_in {a b:Int} {L:List Rg} (x p:Int):In (within L a b) x p ↔ a ≤ x∧x < b∧In L x p:=by
  constructor
  · rintro ⟨q,hq,h1,h2,h3⟩
    obtain ⟨r,hr,hc⟩:=within_mem.1 hq
    obtain ⟨a1,a2,a3,a4⟩:=clip_some hc
    exact ⟨by omega,by omega,r,hr,by omega,by omega,by omega⟩
  · rintro ⟨h1,h2,r,hr,h3,h4,h5⟩
    have hlt:max r.s a < min r.e b:=by omega
    exact ⟨⟨max r.s a,min r.e b,r.p⟩,within_mem.2 ⟨r,hr,by unfold clip;rw [if_pos hlt]⟩,by simp only;omega,by simp only;omega,h5⟩
theorem within_al {a b:Int} {L:List Rg} (h:Al L) (ha:a % 4096 = 0) (hb:b % 4096 = 0):Al (within L a b):=fun q hq=>by
  obtain ⟨r,hr,hc⟩:=within_mem.1 hq
  obtain ⟨a1,a2,a3,a4⟩:=clip_some hc
  have:=h r hr
  omega
theorem within_len (L:List Rg) (a b:Int):(within L a b).length ≤ L.length:=List.length_filterMap_le _ _

noncomputable def layL (L:List Rg) (s e:Int) (M:List Rg):List Rg:=join (join (join [] (within L 0 s)) M) (within L e 274877906944)
theorem layL_all {L M:List Rg} {s e:Int} (h:So 0 274877906944 L) (hs:0 ≤ s) (hse:s < e) (he:e ≤ 274877906944) (hM:So s e M) :
    Nm 0 274877906944 (layL L s e M)∧(∀ a p,In (layL L s e M) a p ↔ In M a p ∨ ((a < s ∨ e ≤ a)∧In L a p))∧(Al L → s % 4096 = 0 → e % 4096 = 0 → Al M → Al (layL L s e M))∧(layL L s e M).length ≤ L.length + M.length + L.length ∧
    (∀ b,e ≤ b → (∀ q,q ∈ L → q.e ≤ b) → ∀ q,q ∈ layL L s e M → q.e ≤ b):=by
  have w1:=within_so (a:=0) (b:=s) h
  have w2:=within_so (a:=e) (b:=274877906944) h
  obtain ⟨a1,a2,a3,a4,a5,a6,a7⟩:=join_all (Nm.nil 0 274877906944) (w1.mono (by omega) (by omega)) (fun q r hq _=>by cases hq)
  have ab:=a7 s (fun q hq=>by cases hq) (fun q hq=>(w1.2 q hq).2.2)
  obtain ⟨b1,b2,b3,b4,b5,b6,b7⟩:=join_all a1 (hM.mono (by omega) (by omega)) (fun q r hq hr=>by
    have:=ab q hq
    have:=hM.2 r hr
    omega)
  have bb:=b7 e (fun q hq=>by have:=ab q hq;omega) (fun q hq=>(hM.2 q hq).2.2)
  obtain ⟨c1,c2,c3,c4,c5,c6,c7⟩:=join_all b1 (w2.mono (by omega) (by omega)) (fun q r hq hr=>by
    have:=bb q hq
    have:=w2.2 r hr
    omega)
  refine ⟨c1,fun a p=>?_,fun ha hs0 he0 hMa=>?_,?_,fun b hb hL=>?_⟩
  · show In (join _ _) a p ↔ _
    rw [c2,b2,a2,within_in,within_in]
    constructor
    · rintro (((h1 | ⟨h1,h2,h3⟩) | h1) | ⟨h1,h2,h3⟩)
      · exact absurd h1 (In_nil _ _)
      · exact .inr ⟨.inl h2,h3⟩
      · exact .inl h1
      · exact .inr ⟨.inr h1,h3⟩
    · rintro (h1 | ⟨h1 | h1,h2⟩)
      · exact .inl (.inr h1)
      · exact .inl (.inl (.inr ⟨(h.range h2).1,h1,h2⟩))
      · exact .inr ⟨h1,(h.range h2).2,h2⟩
  · exact c4 (b4 (a4 Al.nil (within_al ha (by omega) hs0)) hMa) (within_al ha he0 (by omega))
  · show (join _ _).length ≤ _
    have:=within_len L 0 s
    have:=within_len L e 274877906944
    simp only [List.length_nil] at a5
    omega
  · refine c7 b (fun q hq=>by have:=bb q hq;omega) (fun q hq=>?_)
    obtain ⟨r,hr,hc⟩:=within_mem.1 hq
    obtain ⟨d1,d2,d3,d4⟩:=clip_some hc
    have:=hL r hr
    omega
theorem one_so {s e p:Int} (h:s < e):So s e [⟨s,e,p⟩]:=⟨List.pairwise_singleton _ _,fun r hr=>by rw [List.mem_singleton] at hr;subst hr;simp only;omega⟩
theorem one_al {s e p:Int} (h1:s % 4096 = 0) (h2:e % 4096 = 0):Al [⟨s,e,p⟩]:=fun r hr=>by rw [List.mem_singleton] at hr;subst hr;exact ⟨h1,h2⟩
end Go.Proofs.YtlhpodholnfppaaGreatDoor
