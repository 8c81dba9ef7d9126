/-
  Part of the proof.
-/
import Derived.WalkKit
import Derived.WalkSpells
import Derived.WalkLawsBesides
import Derived.Lib.Hide
import Derived.Laws.AppendOwnNone
import Derived.Laws.CopyOwn
import Derived.Test.YtlhpodholnfppaaGreatDoorRows
import Derived.Deep.QuietTactic
import Derived.BigQuiet
import Derived.Maps.RangeWalk
import Derived.Maps.OwnOps
import Derived.Laws.OwnMore
import Derived.Maps.AppendAt
import Derived.Deep.RegionHeld3
import Derived.Deep.Draws
import Derived.Below
set_option linter.unusedVariables false
set_option linter.unusedSimpArgs false
set_option maxHeartbeats 16000000
set_option maxRecDepth 100000
set_option linter.defProp false
open Go.Lib (hid)
namespace Go.Proofs.YtlhpodholnfppaaGreatDoor
open Go.Proofs.Tryz
open Go.RowKit
theorem za (n:Nat):(0:Int)<2^n:=Int.pow_pos (by decide)
theorem zHP (b:Nat) (h:1≤b):(2:Int)^b=2*2^(b - 1):=by
 have e:b=1+(b - 1):=by omega
 rw [e,Int.pow_add];simp
theorem pow64 (b:Nat) (h:b≤64):(2:Int)^(64 - b)*2^b=18446744073709551616:=by
 rw [← Int.pow_add,show 64 - b+b=64 by omega];rfl
theorem pow63 (b:Nat) (h:1≤b) (h':b≤64):(2:Int)^(64 - b)*2^(b - 1)=9223372036854775808:=by
 rw [← Int.pow_add,show 64 - b+(b - 1)=63 by omega];rfl
def low (x:Int) (b:Nat):Int:=(x+2^(b - 1))%2^b - 2^(b - 1)
def sx (x:Int) (b:Nat):Int:=low x b%18446744073709551616
theorem zDB (x:Int) (b:Nat):-(2^(b - 1))≤low x b:=by
 have h:=Int.emod_nonneg (x+2^(b - 1)) (Int.ne_of_gt (za b));unfold low;omega
theorem zDC (x:Int) (b:Nat) (h:1≤b):low x b<2^(b - 1):=by
 have h1:=Int.emod_lt_of_pos (x+2^(b - 1)) (za b);have h2:=zHP b h;unfold low;omega
theorem zKH (x:Int) (b:Nat):∃ q,x=low x b+2^b*q:=by
 refine ⟨(x+2^(b - 1))/2^b,?_⟩;have h:=Int.emod_add_mul_ediv (x+2^(b - 1)) (2^b);unfold low;omega
theorem zEZ (x y q:Int) (b:Nat) (h:1≤b) (he:x=y+2^b*q) (h1:-(2^(b - 1))≤y) (h2:y<2^(b - 1)):low x b=y:=by
 have h3:=zHP b h;unfold low;rw [he,show y+2^b*q+2^(b - 1)=(y+2^(b - 1))+2^b*q by omega,Int.add_mul_emod_self_left,Int.emod_eq_of_lt (by omega) (by omega)];omega
theorem zJc (x:Int) (b:Nat):0≤sx x b∧sx x b<18446744073709551616:=by unfold sx;omega
theorem low_mono (p q:Nat) (h:1≤p) (hpq:p≤q):(2:Int)^(p - 1)≤2^(q - 1)∧(2:Int)^q=2^p*2^(q - p):=by
 constructor
 ·have e:(2:Int)^(q - 1)=2^(p - 1)*2^(q - p):=by rw [← Int.pow_add];congr 1;omega
  have h1:=za (p - 1);have h2:=za (q - p);rw [e]
  have:=Int.mul_le_mul_of_nonneg_left (show (1:Int)≤2^(q - p) by omega) (Int.le_of_lt h1)
  omega
 ·rw [← Int.pow_add];congr 1;omega
theorem shifts (x:Int) (b:Nat) (h1:1≤b) (h2:b≤64):IntKind.u64.wrap (wrap64 (IntKind.u64.wrap (x*2^(64 - b)))/2^(64 - b))=sx x b:=by
 have hP:=za (64 - b);have h64:=pow64 b h2;have h63:=pow63 b h1 h2;obtain ⟨q,hq⟩:=zKH x b;have hl:=zDB x b;have hh:=zDC x b h1;have e1:x*2^(64 - b)=low x b*2^(64 - b)+18446744073709551616*q:=by
  rw [← h64,Int.mul_assoc,Int.mul_comm (2^(64 - b)) (2^b*q),← Int.add_mul,← hq]
 have a1:=Int.mul_le_mul_of_nonneg_right hl (Int.le_of_lt hP);have a2:=Int.mul_le_mul_of_nonneg_right (show low x b+1≤2^(b - 1) by omega) (Int.le_of_lt hP);rw [Int.neg_mul,Int.mul_comm (2^(b - 1)),h63] at a1;rw [Int.add_mul,Int.mul_comm (2^(b - 1)),h63] at a2;have e2:wrap64 (IntKind.u64.wrap (x*2^(64 - b)))=low x b*2^(64 - b):=by
  rw [IntKind.wrap_u64,e1];unfold wrap64;generalize low x b*2^(64 - b)=t at *;omega
 rw [e2,Int.mul_ediv_cancel _ (Int.ne_of_gt hP),IntKind.wrap_u64]
 rfl
theorem zIN (a t:Int) (n k:Nat) (h:k<n):(a+2^n*t)/2^k%2=a/2^k%2:=by
 have e:(2:Int)^n*t=2^k*(2*(2^(n - k - 1)*t)):=by
  rw [show n=k+(1+(n - k - 1)) by omega,Int.pow_add,Int.pow_add];rw [show k+(1+(n - k - 1)) - k - 1=n - k - 1 by omega];simp [Int.mul_assoc]
 rw [e,Int.add_mul_ediv_left _ _ (Int.ne_of_gt (za k))];omega
theorem zKI (x:Int) (b k:Nat) (h:k<b):low x b/2^k%2=x/2^k%2:=by
 obtain ⟨q,hq⟩:=zKH x b
 have:=zIN (low x b) q b k h
 rw [← hq] at this;exact this.symm
theorem sx_low_bit (x:Int) (b k:Nat) (hk:k<64):sx x b/2^k%2=low x b/2^k%2:=by
 have h:=zIN (sx x b) (low x b/18446744073709551616) 64 k hk;rw [← h];have h2:=Int.emod_add_mul_ediv (low x b) 18446744073709551616;have e:sx x b+2^64*(low x b/18446744073709551616)=low x b:=by
  unfold sx;rw [show (2:Int)^64=18446744073709551616 from rfl];omega
 rw [e]
theorem low_top (x:Int) (b k:Nat) (h:1≤b) (hk:b - 1≤k):low x b/2^k%2=low x b/2^(b - 1)%2:=by
 have hl:=zDB x b;have hh:=zDC x b h;have hm:=(low_mono b (k+1) h (by omega)).1;rw [show k+1 - 1=k by omega] at hm;have hp:=za k;have hp1:=za (b - 1);by_cases hs:0≤low x b
 ·rw [Int.ediv_eq_zero_of_lt hs (by omega),Int.ediv_eq_zero_of_lt hs (by omega)]
 ·have e:∀ d:Int,0<d→-d≤low x b→low x b/d = -1:=by
   intro d hd h0;have e0:low x b=(low x b+d)+d*(-1):=by omega
   rw [e0,Int.add_mul_ediv_left _ _ (Int.ne_of_gt hd),Int.ediv_eq_zero_of_lt (by omega) (by omega)];rfl
  rw [e _ hp (by omega),e _ hp1 (by omega)]
theorem sx_bit (x:Int) (b k:Nat) (h:1≤b) (hk:k<64):sx x b/2^k%2=x/2^(min k (b - 1))%2:=by
 rw [sx_low_bit x b k hk];by_cases hkb:k<b
 ·rw [zKI x b k hkb,Nat.min_eq_left (by omega)]
 ·rw [low_top x b k h (by omega),zKI x b (b - 1) (by omega),Nat.min_eq_right (by omega)]
theorem or_bit (S:Int) (k:Nat) (hk:k<64) :
  bits .or .u64 (S%2^k) (IntKind.u64.wrap (S/2^k%2*2^k))=S%2^(k+1):=by
 have hp:=za k;have h0:=Int.emod_nonneg S (Int.ne_of_gt hp);have h1:=Int.emod_lt_of_pos S hp;have hb:S/2^k%2=0∨S/2^k%2=1:=by omega
 have hle:(2:Int)^k≤9223372036854775808:=by
  have:=(low_mono (k+1) 64 (by omega) (by omega)).1
  simpa using this
 have eS:S%2^(k+1)=S%2^k+S/2^k%2*2^k:=by
  have e1:=Int.emod_add_mul_ediv S (2^k);have e2:=Int.emod_add_mul_ediv (S/2^k) 2;have e3:S=(S%2^k+S/2^k%2*2^k)+2^(k+1)*(S/2^k/2):=by
   have:(2:Int)^(k+1)=2^k*2:=Int.pow_succ 2 k
   rw [this,Int.mul_assoc,Int.add_assoc,Int.mul_comm (S/2^k%2),← Int.mul_add,e2,e1]
  have hp2:(2:Int)^(k+1)=2*2^k:=by rw [Int.pow_succ,Int.mul_comm]
  have hlt:S%2^k+S/2^k%2*2^k<2^(k+1):=by
   rcases hb with hb|hb<;>rw [hb,hp2]<;>omega
  have hge:0≤S%2^k+S/2^k%2*2^k:=by rcases hb with hb|hb<;>rw [hb]<;>omega
  generalize hT:S%2^k+S/2^k%2*2^k=T at *;rw [e3,Int.add_mul_emod_self_left,Int.emod_eq_of_lt hge hlt]
 rw [eS,IntKind.wrap_u64];obtain ⟨A,hA⟩:=Int.eq_ofNat_of_zero_le h0;rcases hb with hb|hb
 ·rw [hb];simp only [Int.zero_mul,Int.add_zero];rw [hA]
  have:=u64_or_nat A 0 (by omega) (by decide)
  simpa using this
 ·rw [hb,Int.one_mul,Int.emod_eq_of_lt (Int.le_of_lt hp) (by omega),hA];have e2:(2:Int)^k=((2^k:Nat):Int):=by simp
  rw [e2,u64_or_nat A (2^k) (by omega) (by omega),Nat.or_comm,nat_join k (2^k) A (Nat.mod_self _) (by omega),Nat.add_comm,Int.natCast_add]
theorem qa {α:Type}:(∀ (l:List α) (i:Nat) (a:α),l.toArray.setIfInBounds i a=(l.set i a).toArray)∧(∀ (x a:α) (l:List α),(x::l).set 0 a=a::l)∧∀ (x a:α) (l:List α) (n:Nat),(x::l).set (n+1) a=x::l.set n a:=⟨fun _ _ _=>by simp,fun _ _ _=>rfl,fun _ _ _ _=>rfl⟩
def zzl:=@Below.heap_setCell
def zze:=@Int.eq_ofNat_of_zero_le
def zzu:=@IntWalk.u64_in
def zzd:=@List.getD_eq_getElem?_getD
def zzg:=@List.getElem?_eq_getElem
def zzi:=@List.getElem?_eq_some_iff
def zzm:=@List.not_mem_nil
def zzr:=@Nat.le_refl
def zzb:=@bodyPost_ret
def zzc:=@cell_of_row
def zzf:=@decide_eq_false
def zzn:=@heap_alloc_new
def zzs:=@heap_setCell_same
def zJ (xs:List Int):List Value:=xs.map (Value.int .u8)
theorem zAB (xs:List Int):(zJ xs).length=xs.length:=by simp [zJ]
theorem asBytes_append (xs ys:List Int):zJ (xs++ys)=zJ xs++zJ ys:=by simp [zJ]
theorem zDx (xs:List Int) (j:Nat) (u:Value) (h:(zJ xs)[j]?=some u):j<xs.length∧u=.int .u8 (xs.getD j 0):=by
 unfold zJ at h;rw [List.getElem?_map] at h;rcases hx:xs[j]? with _|x
 ·rw [hx] at h;simp at h
 ·rw [hx] at h;have hj:j<xs.length:=by
   rcases Nat.lt_or_ge j xs.length with h1|h1
   ·exact h1
   ·rw [List.getElem?_eq_none h1] at hx;cases hx
  simp at h;exact ⟨hj,by rw [← h,List.getD_eq_getElem?_getD,hx];rfl⟩
theorem zDW (xs:List Int) (j:Nat) (h:j<xs.length):(zJ xs)[j]?=some (.int .u8 (xs.getD j 0)):=by
 unfold zJ;rw [List.getElem?_map,List.getElem?_eq_getElem h,List.getD_eq_getElem?_getD,List.getElem?_eq_getElem h];rfl
def Rd (w:World) (A:Option Addr) (xs:List Int):Prop:=
 0<xs.length→∃ ad,A=some ad∧∀ i,i<xs.length→w.cell? (ad.add i)=some (.int .u8 (xs.getD i 0))
section
variable {w w':World} {A:Option Addr} {xs:List Int}
theorem Rd.at_ (h:Rd w A xs) (k:Nat) (hk:k<xs.length) :
  ∃ b off,A=some ⟨b,off,none⟩∧w.cell? ⟨b,off+k,none⟩=some (.int .u8 (xs.getD k 0)):=by
 obtain ⟨ad,rfl,hc⟩:=h (by omega);have h1:=hc k hk;have h0:=hc 0 (by omega);obtain ⟨b,off,spot⟩:=ad;have hspot:spot=none:=by simpa [Addr.add] using World.cell?_spot h0
 subst hspot;refine ⟨b,off,rfl,?_⟩;by_cases hk0:k=0
 ·subst hk0;simpa [Addr.add] using h1
 ·simpa [Addr.add,hk0] using h1
theorem add_block (a:Addr) (n:Nat):(a.add n).block=a.block:=by unfold Addr.add;split<;>rfl
theorem Rd.nil_:Rd w A []:=fun h=>absurd h (by simp)
theorem Rd.below (h:Rd w A xs) (hb:Below w.heap.size w w'):Rd w' A xs:=by
 intro h0;obtain ⟨ad,rfl,hc⟩:=h h0;refine ⟨ad,rfl,fun i hi=>?_⟩;have h1:=hc i hi;rw [hb.cell (block_lt_of_cell h1)];exact h1
theorem Rd.cells (h:Rd w A xs) (ad:Addr) (hA:A=some ad):∀ j u,(zJ xs)[j]?=some u→w.cell? (ad.add j)=some u:=by
 intro j u hu;obtain ⟨hj,rfl⟩:=zDx xs j u hu;obtain ⟨ad',h',hc⟩:=h (by omega);rw [hA] at h';cases h';exact hc j hj
variable {base n:Nat}
theorem Rd.zIA {e:Nat} {v:Value} (h:w.ownsRow base e 1 v n (zJ xs)):∃ A c,v=.slice A n c∧Rd w A xs∧n=xs.length∧(A=none→c=0)∧n≤c:=by
 have hn:n=xs.length:=by have:=h.1;rw [zAB] at this;omega
 rcases h.2 with ⟨rfl,h0⟩|⟨g,cap,cur,rfl,hb,hh,hnc,hcm,hcs,ht⟩
 ·subst h0;exact ⟨none,0,rfl,fun hx=>absurd hx (by omega),hn,fun _=>rfl,Nat.le_refl _⟩
 ·refine ⟨_,_,rfl,fun _=>⟨_,rfl,fun i hi=>?_⟩,hn,(fun h=>by cases h),hnc⟩
  have:=h.cells (g:=g) rfl i _ (zDW xs i hi)
  exact this
theorem Rd.drop (h:Rd w A xs) (k cap:Nat) (hk:k≤xs.length) (hc:xs.length≤cap):Rd w (if cap=k then A else A.map (·.add k)) (xs.drop k):=by
 intro h0;rw [List.length_drop] at h0;obtain ⟨ad,rfl,hcell⟩:=h (by omega);rw [if_neg (by omega)];refine ⟨_,rfl,fun i hi=>?_⟩;rw [List.length_drop] at hi;have h1:=hcell (k+i) (by omega);have e:(ad.add k).add i=ad.add (k+i):=by
  unfold Addr.add;by_cases a0:k=0<;>by_cases b0:i=0<;>simp [a0,b0,Nat.add_assoc]
 rw [e,h1,List.getD_eq_getElem?_getD,List.getD_eq_getElem?_getD,List.getElem?_drop]
end
theorem zEJ (xs:List Int):∀ u∈zJ xs,u.oneCell'=true:=ints_oneCell .u8 xs
variable {w w1:World}
theorem zBK {P:Program} {ops:Array Oper} {rest:List Oper} {o:Oper} {a:Act} {Q:Exit→Act→World→Prop} (hgd:o.guard=none) (s x:Operand) (t:TypeId)
 (ho:o.op=.call { callee:=.builtin .append,args:=#[s,x],argTypes:=#[t,t] })
 (base:Nat) (e:TypeId) (i:TypeInfo) (ht:P.underlying t=some (.slice e)) (hi:P.info? e=some i) (hz:i.zero=some (.int .u8 0)) (hsize:i.size=1) (hby:i.bytes=1)
 (v:Value) (n:Nat) (xs:List Int) (hs:a.eval s=v) (hown:w.ownsRow base e 1 v n (zJ xs))
 (A:Option Addr) (m c:Nat) (news:List Int) (hx:a.eval x=.slice A m c) (hr:Rd w A news) (hl:news.length=m) (hc:A=none→c=0)
 (h63:n+m≤1000000000) (hbase:base≤w.heap.size)
 (h:∀ v' w',w'.ownsRow base e 1 v' (n+m) (zJ (xs++news))→w.grownBy w' v.ownBlock→wpList P ops Q rest (a.put o.dst v') w'):wpList P ops Q (o :: rest) a w:=by
 rcases A with _|ad
 ·have hm:news=[]:=by
   rcases Nat.eq_zero_or_pos news.length with h0|h0
   ·exact List.eq_nil_of_length_eq_zero h0
   ·obtain ⟨_,h',_⟩:=hr h0;cases h'
  subst hm;obtain rfl:m=0:=by simpa using hl.symm
  obtain rfl:=hc rfl;refine wpList_append_own_none hgd s x t ho base e i 1 ht hi v n (zJ xs) hs hown hx ?_;exact h v w (by simpa using hown) (World.grownBy.refl w _)
 ·refine wpList_append_own w hgd s x t ho base e i (.int .u8 0) 1 1 ht hi hz hsize hby rfl (by omega) v n (zJ xs) hs hown ad m c (zJ news) hx (by rw [zAB,hl,Nat.mul_one]) (hr.cells ad rfl) (zEJ news) (by simp only [maxLen];omega) (by omega) hbase ?_;intro v' w' h1 h2 _;exact h v' w' (by rw [asBytes_append];exact h1) h2
theorem zY {P:Program} {ops:Array Oper} {rest:List Oper} {o:Oper} {a:Act} {Q:Exit→Act→World→Prop} (hw:Region.wanted o (yielded ops a.tmps)=true) (s x:Operand) (t:TypeId)
 (ho:o.op=.call { callee:=.builtin .append,args:=#[s,x],argTypes:=#[t,t] }) (v vx v1:Value) (hs:a.eval s=v) (hx:a.eval x=vx)
 (hrun:(Builtin.append_ #[t,t] o.type #[v,vx]).run P w=.ok v1 w1) (h:wpList P ops Q rest (a.put o.dst v1) w1):wpList P ops Q (o :: rest) a w:=by
 refine BigFrame.wpList_want hw fun K hK=>?_
 unfold Oper.wp;simp [execOp,ho,resolve,invoke,builtin,hs,hx,hrun,Result.andThen];exact hK _ _ h
theorem run_copied {P:Program} (W:World) (t e:TypeId) (ty:TypeId) (ht:P.underlying t=some (.slice e)) (hsz:(P.info? e).map (·.size)=some 1)
  (base g len c:Nat) (cur:Array Value) (hg:W.heap[g]?=some (.cells cur e (0,0))) (hcs:cur.size=c) (hlc:len≤c) (hcm:c≤maxLen) (hbg:base≤g)
  (A:Option Addr) (cap:Nat) (xs:List Int) (hr:Rd W A xs) (hl:xs.length=len) :
  ∃ w2,(Builtin.copy_ #[t,t] ty #[.slice (some ⟨g,0,none⟩) len c,.slice A len cap]).run P W=.ok (.int .i64 (len:Int)) w2 ∧
   w2.ownsRow base e 1 (.slice (some ⟨g,0,none⟩) len c) len (zJ xs)∧W.grownBy w2 (some g):=by
 by_cases h0:len=0
 ·subst h0;obtain rfl:xs=[]:=List.eq_nil_of_length_eq_zero hl;exact ⟨W,run_copy_none (P:=P) W t t ty e _ _ 0 c 0 cap ht hsz rfl,⟨by simp [zJ],.inr ⟨g,c,cur,rfl,hbg,hg,hlc,hcm,by omega,by simp [zJ]⟩⟩,World.grownBy.refl _ _⟩
 ·obtain ⟨ad,rfl,_⟩:=hr (by omega);have hcl:(zJ xs).length=len:=by rw [zAB,hl]
  have hrun:=run_copy_row (P:=P) W t t ty e g 0 len c ad len cap cur e (zJ xs) ht hsz hg (by rw [hcl];exact (Nat.min_self _).symm) (hr.cells ad rfl) (by omega) (zEJ xs);rw [hcl] at hrun;refine ⟨_,hrun,⟨by omega,.inr ⟨g,c,_,rfl,hbg,setRow_heap W g _ _ e _ hg,hlc,hcm,?_,?_⟩⟩,?_⟩
  ·simp [hcl];omega
  ·simp [hcl]
  ·exact ⟨rfl,rfl,rfl,by simp [World.setRow],fun k _ hne=>setRow_other W g k _ (fun e=>hne (by rw [e]))⟩
theorem zGG (n:Int) (w:World):Calls prog 176 #[.int .i64 n] w fun e w'=>e=.returned (.bool (decide (1≤n∧n≤8)))∧w=w':=by
 by_cases h:1≤n
 ·have e:decide (1≤n∧n≤8)=decide (n≤8):=by simp [h]
  rw [e];clear e;go_enter func176,ntmps176;go_wp2;go_ret;exact ⟨rfl,rfl⟩
 ·have e:decide (1≤n∧n≤8)=false:=by simp [h]
  rw [e];clear e;go_enter func176,ntmps176;go_wp2;go_ret;exact ⟨rfl,rfl⟩
def getS (xs:List Int):Nat→Int
 | 0=>0
 | k+1=>getS xs k+xs.getD k 0*2^(8*k)
theorem zHX (xs:List Int) (hb:∀ k,0≤xs.getD k 0∧xs.getD k 0≤255) (k:Nat):0≤getS xs k∧getS xs k<2^(8*k):=by
 induction k with
 | zero=>simp [getS]
 | succ k ih =>
  have hp:=za (8*k);have hx:=hb k;have e:(2:Int)^(8*(k+1))=256*2^(8*k):=by rw [show 8*(k+1)=8+8*k by omega,Int.pow_add];rfl
  have h1:=Int.mul_nonneg hx.1 (Int.le_of_lt hp);have h2:=Int.mul_le_mul_of_nonneg_right hx.2 (Int.le_of_lt hp);unfold getS;rw [e];omega
theorem zIv (k:Nat) (h:k≤56):(2:Int)^k≤72057594037927936:=by
 have:=(low_mono (k+1) 57 (by omega) (by omega)).1
 simpa using this
theorem zKb (x:Int) (k:Nat) (hk:k<8) (hx:0≤x∧x≤255):IntKind.u64.wrap (x*2^(8*k))=x*2^(8*k):=by
 have hp:=za (8*k);have hq:=zIv (8*k) (by omega);have h1:=Int.mul_nonneg hx.1 (Int.le_of_lt hp);have h2:=Int.mul_le_mul_of_nonneg_right hx.2 (Int.le_of_lt hp);exact zzu _ (by omega)
theorem zKB (xs:List Int) (hb:∀ k,0≤xs.getD k 0∧xs.getD k 0≤255) (k:Nat) (hk:k<8) :
  bits .or .u64 (getS xs k) (IntKind.u64.wrap (xs.getD k 0*2^(8*k)))=getS xs (k+1):=by
 obtain ⟨h0,h1⟩:=zHX xs hb k;have hx:=hb k;rw [zKb _ k hk hx];show _=getS xs k+xs.getD k 0*2^(8*k);have hp:=za (8*k);have hq:=zIv (8*k) (by omega);have h3:=Int.mul_nonneg hx.1 (Int.le_of_lt hp);have h4:=Int.mul_le_mul_of_nonneg_right hx.2 (Int.le_of_lt hp);generalize getS xs k=g at *;generalize xs.getD k 0=x at *;obtain ⟨G,rfl⟩:=zze h0;obtain ⟨X,rfl⟩:=zze hx.1;have e2:(2:Int)^(8*k)=((2^(8*k):Nat):Int):=by simp
 rw [e2,← Int.natCast_mul] at h3 h4 ⊢;rw [e2] at h1 hq;rw [u64_or_nat G (X*2^(8*k)) (by omega) (by omega),Nat.or_comm,nat_join (8*k) (X*2^(8*k)) G (Nat.mul_mod_left _ _) (by omega),Nat.add_comm,Int.natCast_add]
theorem get_in (A:Option Addr) (len cap:Nat) (xs:List Int) (n:Nat) (w:World) (hr:Rd w A xs) (hl:xs.length = len) (hm:len ≤ 100000) (h1:1 ≤ n) (h8:n ≤ 8)
   (hb:∀ k,0 ≤ xs.getD k 0∧xs.getD k 0 ≤ 255) :
    Calls prog 175 #[.slice A len cap,.int .i64 n] w fun e w'=>e = .returned (.int .u64 (getS xs (min n len)))∧w = w':=by
  have HR:=hid hr;clear hr
  have HL:=hid hl;clear hl
  have HB:=hid hb;clear hb
  have e1:decide (1 ≤ (n:Int)∧(n:Int) ≤ 8) = true:=by simp;omega
  have E1:=hid e1;clear e1
  by_cases hc:len < n
  · rw [Nat.min_eq_right (by omega)]
    go_enter func175,ntmps175
    go_wp2_with fail
    refine (zGG _ _).mono ?_
    rintro e w' ⟨rfl,rfl⟩
    rw [E1.out]
    go_wp2
    go_loop [5,14] (fun x i=>∃ k:Nat,k ≤ len∧i = .int .i64 k∧x = .int .u64 (getS xs k)) (fun _ i=>len - (intOf i).toNat)
    case atStart=>exact ⟨0,by omega,rfl,rfl⟩
    case round =>
      obtain ⟨k,hk,rfl,rfl⟩:=hrel
      by_cases hlt:k < len
      · obtain ⟨b,off,hA,hcell⟩:=HR.out.at_ k (by rw [HL.out];omega)
        subst hA
        have hx:=HB.out k
        have ho:=hid (zKB xs HB.out k (by omega))
        generalize xs.getD k 0 = x at *
        have hin:(k:Int) < (len:Int):=by omega
        go_wp2
        go_round
        case rel=>exact ⟨k + 1,by omega,by go_num,by rw [← ho.out]⟩
        case measure=>simp [intOf];omega
      · obtain rfl:k = len:=by omega
        go_wp2
        go_ret
        exact ⟨rfl,rfl⟩
  · rw [Nat.min_eq_left (by omega)]
    go_enter func175,ntmps175
    go_wp2_with fail
    refine (zGG _ _).mono ?_
    rintro e w' ⟨rfl,rfl⟩
    rw [E1.out]
    go_wp2
    go_loop [5,14] (fun x i=>∃ k:Nat,k ≤ n∧i = .int .i64 k∧x = .int .u64 (getS xs k)) (fun _ i=>n - (intOf i).toNat)
    case atStart=>exact ⟨0,by omega,rfl,rfl⟩
    case round =>
      obtain ⟨k,hk,rfl,rfl⟩:=hrel
      by_cases hlt:k < n
      · obtain ⟨b,off,hA,hcell⟩:=HR.out.at_ k (by rw [HL.out];omega)
        subst hA
        have hx:=HB.out k
        have ho:=hid (zKB xs HB.out k (by omega))
        generalize xs.getD k 0 = x at *
        have hin:(k:Int) < (len:Int):=by omega
        go_wp2
        go_round
        case rel=>exact ⟨k + 1,by omega,by go_num,by rw [← ho.out]⟩
        case measure=>simp [intOf];omega
      · obtain rfl:k = n:=by omega
        go_wp2
        go_ret
        exact ⟨rfl,rfl⟩
theorem add_byte (xs:List Int) (hb:∀ k,0≤xs.getD k 0∧xs.getD k 0≤255) (k:Nat) (hk:k<8) :
  IntKind.u64.wrap (getS xs k+IntKind.u64.wrap (xs.getD k 0*2^(8*k)))=getS xs (k+1):=by
 rw [zKb _ k hk (hb k)];have h:=zHX xs hb (k+1);have hp:(2:Int)^(8*(k+1))≤18446744073709551616:=by
  have:=(low_mono (8*(k+1)+1) 65 (by omega) (by omega)).1
  simpa using this
 exact zzu _ (by show 0≤getS xs (k+1)∧getS xs (k+1)≤_;omega)
theorem zFq (A:Option Addr) (len cap:Nat) (xs:List Int) (n:Nat) (w:World) (hr:Rd w A xs) (hl:xs.length = len) (hm:len ≤ 100000) (h1:1 ≤ n) (h8:n ≤ 8)
   (hb:∀ k,0 ≤ xs.getD k 0∧xs.getD k 0 ≤ 255) :
    Calls prog 90 #[.slice A len cap,.int .i64 n] w fun e w'=>e = .returned (.int .u64 (getS xs (min n len)))∧w = w':=by
  have HR:=hid hr;clear hr
  have HL:=hid hl;clear hl
  have HB:=hid hb;clear hb
  obtain ⟨M,hMe⟩:∃ M,M = min n len:=⟨_,rfl⟩
  rw [← hMe]
  have hM1:M ≤ n:=by omega
  have hM2:M ≤ len:=by omega
  have hM3:M = n ∨ M = len:=by omega
  have HM:=hid hM3;clear hM3 hMe
  go_enter func90,ntmps90
  go_wp2
  go_loop [5,6] (fun x i=>∃ k:Nat,k ≤ M∧i = .int .i64 k∧x = .int .u64 (getS xs k)) (fun _ i=>M - (intOf i).toNat)
  case atStart=>exact ⟨0,by omega,rfl,rfl⟩
  case round =>
    obtain ⟨k,hk,rfl,rfl⟩:=hrel
    by_cases hlt:k < M
    · obtain ⟨b,off,hA,hcell⟩:=HR.out.at_ k (by rw [HL.out];omega)
      subst hA
      have hx:=HB.out k
      have ho:=hid (add_byte xs HB.out k (by omega))
      generalize xs.getD k 0 = x at *
      have hin:(k:Int) < (len:Int):=by omega
      have hin2:(k:Int) < (n:Int):=by omega
      go_wp2
      go_round
      case rel=>exact ⟨k + 1,by omega,by go_num,by rw [← ho.out]⟩
      case measure=>simp [intOf];omega
    · obtain rfl:k = M:=by omega
      by_cases hkn:k < n
      · have hkl:k = len:=by have:=HM.out;omega
        have hin:¬ (k:Int) < (len:Int):=by omega
        clear hkl
        go_wp2
        go_ret
        exact ⟨rfl,rfl⟩
      · go_wp2
        go_ret
        exact ⟨rfl,rfl⟩
theorem sameB_any (A B:Option Addr) (len cap cap':Nat) (xs:List Int) (w:World) (hr:Rd w A xs) (hr':Rd w B xs) (hl:xs.length=len) (hm:len≤100000) :
  Calls prog 33 #[.slice A len cap,.slice B len cap'] w fun e w'=>e=.returned (.bool true)∧∃ m,w'=w.drewN m:=by
 have HR:=hid hr;clear hr;have HR':=hid hr';clear hr';have HL:=hid hl;clear hl;go_enter func33,ntmps33;go_wp2
 go_loopw [5] (fun i wr=>∃ k m:Nat,k≤len∧i=.int .i64 k∧wr=w.drewN m) (fun i _=>len - (intOf i).toNat)
 case atStart=>exact ⟨0,0,by omega,rfl,rfl⟩
 case round =>
  obtain ⟨k,m,hk,rfl,rfl⟩:=hrel;by_cases hlt:k<len
  ·obtain ⟨b,off,hA,hcell⟩:=HR.out.at_ k (by rw [HL.out];omega);subst hA;obtain ⟨b',off',hA,hcell'⟩:=HR'.out.at_ k (by rw [HL.out];omega);subst hA;generalize xs.getD k 0=x at *;have hin:(k:Int)<(len:Int):=by omega
   go_wp2;go_quiet (fail)
   go_wp2
   go_roundw
   case rel=>exact ⟨k+1,m+nq,by omega,by go_num,rfl⟩
   case measure=>simp [intOf];omega
  ·obtain rfl:k=len:=by omega
   go_wp2;go_ret;exact ⟨rfl,_,rfl⟩
theorem zDZ:Maps.Keyed prog 29:=Maps.int_keyed underlying29
theorem zero44 (w:World):(zeroValue 145).run prog w=.ok (.pointer none) w:=by kernel_rfl
def zeros:Array Value:=(zJ (List.replicate 4096 0)).toArray
theorem info53:(prog.info? 173).map (fun i=>(i.zero,i.size))=some (some (.agg zeros),4096):=by kernel_rfl
theorem infoByte:(prog.info? 5).map (fun i=>(i.zero,i.size,i.bytes))=some (some (.int .u8 0),1,1):=by kernel_rfl
theorem sizeByte:(prog.info? 5).map (·.size)=some 1:=by kernel_rfl
def putB (x:Int) (k:Nat):List Int:=(List.range k).map fun i=>x/2^(8*i)%256
theorem zBJ (x:Int) (k:Nat):(putB x k).length=k:=by simp [putB]
theorem zEC (x:Int) (k:Nat):putB x (k+1)=putB x k++[x/2^(8*k)%256]:=by simp [putB,List.range_succ]
theorem zCc (w:World):(w.alloc (.cells #[] 5)).ownsRow w.heap.size 5 1 (.slice (some ⟨w.heap.size,0,none⟩) 0 0) 0 (zJ []):=
 World.ownsRow_lit w #[] 0 (zzr _) (by simp [maxLen]) (by simp)
variable {xs:List Int} {A:Option Addr}
theorem Rd.alloc (h:Rd w A xs) (o:Obj):Rd (w.alloc o) A xs:=h.below ((Below.refl _ _).alloc (zzr _) o)
variable {base n:Nat}
theorem zAL {e:Nat} {v:Value} {xs:List Value} (h:w.ownsRow base e 1 v n xs):∀ k,v.ownBlock=some k→base≤k:=fun k hk=>(h.lt k hk).1
theorem one_cell (w:World) (y:Int):Rd (w.alloc (.cells #[.int .u8 y] 5)) (some ⟨w.heap.size,0,none⟩) [y]:=by
 intro _;refine ⟨_,rfl,fun i hi=>?_⟩;obtain rfl:i=0:=by simpa using hi
 simp [Addr.add]
theorem refPut_in (A:Option Addr) (len cap:Nat) (xs:List Int) (x:Int) (n:Nat) (w:World) (hr:Rd w A xs) (hl:xs.length=len) (hc:A=none→cap=0) (hm:len≤5100) (h1:1≤n) (h8:n≤8) :
  Calls prog 16 #[.slice A len cap,.int .u64 x,.int .i64 n] w fun e w'=>∃ B c,e=.returned (.slice B (len+n) c)∧Rd w' B (xs++putB x n)∧Below w.heap.size w w':=by
 obtain ⟨i0,hi0,hz0,hz1,hz2⟩:=info_parts infoByte;have HR:=hid hr;clear hr;have HL:=hid hl;clear hl;have HC:=hid hc;clear hc;have J0:=hid hi0;clear hi0;have J1:=hid hz0;clear hz0;have J2:=hid hz1;clear hz1;have J3:=hid hz2;clear hz2;go_enter func16,ntmps16;go_wp2_with (at_builtin;refine zBK rfl (.tmp 9) (.tmp 10) 22 rfl w.heap.size 5 i0 underlying22 J0.out J1.out J2.out J3.out _ 0 [] rfl (zCc w) A len cap xs rfl (HR.out.alloc _) HL.out HC.out (by omega) (by simp) ?_;intro v1 w1 hown1 hg1;have HO1:=hid hown1;clear hown1);have hbel:Below w.heap.size w w1:=((Below.refl _ _).alloc (zzr _) _).grown hg1 (by simp) (zAL (zCc w));clear hg1
 go_loopw [7,8] (fun v i wr=>∃ k:Nat,k≤n∧i=.int .i64 k∧wr.ownsRow w.heap.size 5 1 v (len+k) (zJ (xs++putB x k))∧Below w.heap.size w wr) (fun _ i _=>n - (intOf i).toNat)
 case atStart=>exact ⟨0,by omega,rfl,by simpa [putB] using HO1.out,hbel⟩
 case round =>
  obtain ⟨k,hk,rfl,hown,hbr⟩:=hrel;clear hbel HO1;have HO:=hid hown;clear hown;by_cases hlt:k<n
  ·go_wp2_with (at_builtin;refine zBK rfl (.tmp 24) (.tmp 31) 22 rfl w.heap.size 5 i0 underlying22 J0.out J1.out J2.out J3.out _ (len+k) (xs++putB x k) rfl (HO.out.alloc _) (some ⟨wr.heap.size,0,none⟩) 1 1 [x/2^(8*k)%256] rfl (one_cell wr _) rfl (fun h=>by cases h) (by omega) (by have:=hbr.size;simp;omega) ?_;intro v2 w2 hown2 hg2);have hsz:=hbr.size;have hb2:Below w.heap.size w w2:=(hbr.alloc hsz _).grown hg2 (by simp;omega) (zAL HO.out)
   go_roundw
   case rel=>exact ⟨k+1,by omega,by go_num,by rw [zEC,← List.append_assoc];exact hown2,hb2⟩
   case measure=>simp [intOf];omega
  ·obtain rfl:k=n:=by omega
   go_wp2;go_ret;obtain ⟨B,c,rfl,hrd,_,_⟩:=Rd.zIA HO.out;exact ⟨B,c,rfl,hrd,hbr⟩
theorem run_made (len c:Nat) (i:TypeInfo) (hi:prog.info? 5=some i) (hz:i.zero=some (.int .u8 0)) (hs:i.size=1) (hb:i.bytes=1) (hlc:len≤c) (hc:c≤1000000) (w:World) :
  (Instr.makeSlice 22 (.int .i64 (len:Int)) (.int .i64 (c:Int))).run prog w=.ok (.slice (some ⟨w.heap.size,0,none⟩) len c) (w.alloc (.cells (madeCells #[.int .u8 0] c) 5)):=by
 have h:=run_make (P:=prog) w 22 5 i (.int .u8 0) underlying22 hi hz .i64 .i64 len c (by omega) (by omega) (by rw [hb];omega) (by omega)
 simpa [hs,Value.cells] using h
theorem put_in (A:Option Addr) (len cap:Nat) (xs:List Int) (x:Int) (n:Nat) (w:World) (hr:Rd w A xs) (hl:xs.length=len) (hm:len≤5100) (h1:1≤n) (h8:n≤8) :
  Calls prog 156 #[.slice A len cap,.int .u64 x,.int .i64 n] w fun e w'=>∃ B c,e=.returned (.slice B (len+n) c)∧Rd w' B (xs++putB x n)∧Below w.heap.size w w'∧len+n≤c∧∀ ad,B=some ad→w.heap.size≤ad.block:=by
 obtain ⟨i0,hi0,hz0,hz1,hz2⟩:=info_parts infoByte;have hmk:=fun W=>run_made len (len+n) i0 hi0 hz0 hz1 hz2 (by omega) (by omega) W
 have HR:=hid hr;clear hr;have HL:=hid hl;clear hl;have J0:=hid hi0;clear hi0;have J1:=hid hz0;clear hz0;have J2:=hid hz1;clear hz1;have J3:=hid hz2;clear hz2;have e1:decide (1≤(n:Int)∧(n:Int)≤8)=true:=by simp;omega
 have E1:=hid e1;clear e1;have ec:((len+n:Nat):Int)=(len:Int)+(n:Int):=by omega
 rw [ec] at hmk;clear ec;obtain ⟨w2,hcp,hown,hgr⟩:=run_copied (P:=prog) (w.alloc (.cells (madeCells #[.int .u8 0] (len+n)) 5)) 22 5 3 underlying22 sizeByte w.heap.size w.heap.size len (len+n) _ (zzn w _) (size_madeCells _ _) (by omega) (by simp only [maxLen];omega) (zzr _) A cap xs (HR.out.alloc _) HL.out;have hbel:Below w.heap.size w w2:=((Below.refl _ _).alloc (zzr _) _).grown hgr (by simp) (fun k hk=>by injection hk with hk;omega);clear hgr;have HO1:=hid hown;clear hown;have HBL:=hid hbel;clear hbel;go_enter func156,ntmps156;go_wp2_with fail;refine (zGG _ _).mono ?_;rintro e w' ⟨rfl,rfl⟩;rw [E1.out];go_wp2_with fail;clear hcp hmk
 go_loopw [7,23] (fun v i wr=>∃ k:Nat,k≤n∧i=.int .i64 k∧wr.ownsRow w.heap.size 5 1 v (len+k) (zJ (xs++putB x k))∧Below w.heap.size w wr) (fun _ i _=>n - (intOf i).toNat)
 case atStart=>exact ⟨0,by omega,rfl,by simpa [putB] using HO1.out,HBL.out⟩
 case round =>
  obtain ⟨k,hk,rfl,hown,hbr⟩:=hrel;clear HBL HO1;have HO:=hid hown;clear hown;by_cases hlt:k<n
  ·go_wp2_with (at_builtin;refine zBK rfl (.tmp 26) (.tmp 32) 22 rfl w.heap.size 5 i0 underlying22 J0.out J1.out J2.out J3.out _ (len+k) (xs++putB x k) rfl (HO.out.alloc _) (some ⟨wr.heap.size,0,none⟩) 1 1 [x/2^(8*k)%256] rfl (one_cell wr _) rfl (fun h=>by cases h) (by omega) (by have:=hbr.size;simp;omega) ?_;intro v2 w3 hown2 hg2);have hsz:=hbr.size;have hb2:Below w.heap.size w w3:=(hbr.alloc hsz _).grown hg2 (by simp;omega) (zAL HO.out)
   go_roundw
   case rel=>exact ⟨k+1,by omega,by go_num,by rw [zEC,← List.append_assoc];exact hown2,hb2⟩
   case measure=>simp [intOf];omega
  ·obtain rfl:k=n:=by omega
   go_wp2;go_ret;obtain ⟨B,c,rfl,hrd,_,_,hcc⟩:=Rd.zIA HO.out;exact ⟨B,c,rfl,hrd,hbr,hcc,fun ad hB=>zAL HO.out ad.block (by rw [hB];rfl)⟩
theorem zHM (x:Int) (n k:Nat) (h:k<n):(putB x n).getD k 0=x/2^(8*k)%256:=by
 simp [putB,List.getElem?_range h]
theorem zHN (x:Int) (n k:Nat):0≤(putB x n).getD k 0∧(putB x n).getD k 0≤255:=by
 by_cases h:k<n
 ·rw [zHM x n k h];omega
 ·rw [zzd,List.getElem?_eq_none (by rw [zBJ];omega)];simp
theorem getS_putB (x:Int) (n k:Nat) (h:k≤n):getS (putB x n) k=x%2^(8*k):=by
 induction k with
 | zero=>simp [getS,Int.emod_one]
 | succ k ih =>
  unfold getS;rw [ih (by omega),zHM x n k (by omega)];have e:(2:Int)^(8*(k+1))=2^(8*k)*256:=by rw [show 8*(k+1)=8*k+8 by omega,Int.pow_add];rfl
  have hp:=za (8*k);have e1:=Int.emod_add_mul_ediv x (2^(8*k));have e2:=Int.emod_add_mul_ediv (x/2^(8*k)) 256;have r0:=Int.emod_nonneg x (Int.ne_of_gt hp);have r1:=Int.emod_lt_of_pos x hp;have q0:0≤x/2^(8*k)%256∧x/2^(8*k)%256≤255:=by omega
  have m0:=Int.mul_nonneg q0.1 (Int.le_of_lt hp);have m1:=Int.mul_le_mul_of_nonneg_right q0.2 (Int.le_of_lt hp);have hx:x=(x%2^(8*k)+x/2^(8*k)%256*2^(8*k))+2^(8*k)*256*(x/2^(8*k)/256):=by
   rw [Int.mul_assoc,Int.add_assoc,Int.mul_comm (x/2^(8*k)%256),← Int.mul_add,e2,e1]
  rw [e];generalize hT:x%2^(8*k)+x/2^(8*k)%256*2^(8*k)=T at *;rw [hx,Int.add_mul_emod_self_left,Int.emod_eq_of_lt (by omega) (by omega)]
end Go.Proofs.YtlhpodholnfppaaGreatDoor
namespace Go.Proofs.YtlhpodholnfppaaGreatDoor
open Go.Proofs.Tryz
structure Rg where
 s:Int
 e:Int
 p:Int
theorem Rg.eq {a b:Rg} (h1:a.s=b.s) (h2:a.e=b.e) (h3:a.p=b.p):a=b:=by
 cases a;cases b;simp_all
def In (L:List Rg) (a p:Int):Prop:=∃ r,r∈L∧r.s≤a∧a<r.e∧r.p=p
def Nm (lo hi:Int) (L:List Rg):Prop:=
 L.Pairwise (fun r q=>r.e≤q.s∧(r.e=q.s→r.p≠q.p))∧∀ r,r∈L→lo≤r.s∧r.s<r.e∧r.e≤hi
def So (lo hi:Int) (L:List Rg):Prop:=
 L.Pairwise (fun r q=>r.e≤q.s)∧∀ r,r∈L→lo≤r.s∧r.s<r.e∧r.e≤hi
def Al (L:List Rg):Prop:=∀ r,r∈L→r.s%4096=0∧r.e%4096=0
variable {a e hi hi' lo lo' op p:Int} {L:List Rg}
theorem Nm.so (h:Nm lo hi L):So lo hi L:=⟨h.1.imp fun h=>h.1,h.2⟩
theorem Nm.nil (lo hi:Int):Nm lo hi []:=⟨List.Pairwise.nil,fun r h=>by cases h⟩
theorem Al.nil:Al []:=fun r h=>by cases h
theorem zGS (a p:Int):¬ In [] a p:=fun ⟨_,h,_⟩=>by cases h
theorem zEP {A B:List Rg}:In (A++B) a p↔In A a p∨In B a p:=by
 constructor
 ·rintro ⟨r,hr,h⟩;rcases List.mem_append.1 hr with h1|h1
  ·exact .inl ⟨r,h1,h⟩
  ·exact .inr ⟨r,h1,h⟩
 ·rintro (⟨r,hr,h⟩|⟨r,hr,h⟩)
  ·exact ⟨r,List.mem_append_left _ hr,h⟩
  ·exact ⟨r,List.mem_append_right _ hr,h⟩
variable {r:Rg}
theorem zHA:In [r] a p↔r.s≤a∧a<r.e∧r.p=p:=by
 constructor
 ·rintro ⟨q,hq,h⟩;rw [List.mem_singleton] at hq;subst hq;exact h
 ·intro h;exact ⟨r,List.mem_singleton_self _,h⟩
theorem zAe:In (r :: L) a p↔(r.s≤a∧a<r.e∧r.p=p)∨In L a p:=by
 rw [show r :: L=[r]++L from rfl,zEP,zHA]
theorem Nm.mono (h:Nm lo hi L) (h1:lo'≤lo) (h2:hi≤hi'):Nm lo' hi' L:=
 ⟨h.1,fun r hr=>by have:=h.2 r hr;omega⟩
theorem So.mono (h:So lo hi L) (h1:lo'≤lo) (h2:hi≤hi'):So lo' hi' L:=
 ⟨h.1,fun r hr=>by have:=h.2 r hr;omega⟩
theorem Nm.tail (h:Nm lo hi (r :: L)):Nm r.e hi L:=by
 obtain ⟨h1,h2⟩:=h;rw [List.pairwise_cons] at h1;refine ⟨h1.2,fun q hq=>?_⟩
 have:=h1.1 q hq
 have h3:=h2 q (List.mem_cons_of_mem _ hq);omega
theorem So.tail (h:So lo hi (r :: L)):So r.e hi L:=by
 obtain ⟨h1,h2⟩:=h;rw [List.pairwise_cons] at h1;refine ⟨h1.2,fun q hq=>?_⟩
 have:=h1.1 q hq
 have h3:=h2 q (List.mem_cons_of_mem _ hq);omega
theorem So.range (h:So lo hi L) (hi':In L a p):lo≤a∧a<hi:=by
 obtain ⟨r,hr,h1,h2,h3⟩:=hi'
 have:=h.2 r hr
 omega
theorem So.one (h:So lo hi L) {q:Int} (h1:In L a p) (h2:In L a q):p=q:=by
 induction L generalizing lo with
 | nil=>exact absurd h1 (zGS _ _)
 | cons r L ih =>
  have ht:=h.tail;rcases zAe.1 h1 with a1|a1<;>rcases zAe.1 h2 with a2|a2
  ·omega
  ·have:=ht.range a2;omega
  ·have:=ht.range a1;omega
  ·exact ih ht a1 a2
theorem unique {M:List Rg} (h:Nm lo hi L) (k:Nm lo' hi' M) (e:∀ a p,In L a p↔In M a p):L=M:=by
 induction L generalizing lo lo' M with
 | nil =>
  cases M with
  | nil=>rfl
  | cons q M =>
   have h1:=k.2 q (List.mem_cons_self ..);exact absurd ((e q.s q.p).2 (zAe.2 (.inl ⟨by omega,by omega,rfl⟩))) (zGS _ _)
 | cons r L ih =>
  cases M with
  | nil =>
   have h1:=h.2 r (List.mem_cons_self ..);exact absurd ((e r.s r.p).1 (zAe.2 (.inl ⟨by omega,by omega,rfl⟩))) (zGS _ _)
  | cons q M =>
   have hr:=h.2 r (List.mem_cons_self ..);have hq:=k.2 q (List.mem_cons_self ..);have htl:=h.tail;have htm:=k.tail;have s1:q.s≤r.s:=by
    rcases zAe.1 ((e r.s r.p).1 (zAe.2 (.inl ⟨by omega,by omega,rfl⟩))) with a1|a1
    ·omega
    ·have:=htm.so.range a1;omega
   have s2:r.s≤q.s:=by
    rcases zAe.1 ((e q.s q.p).2 (zAe.2 (.inl ⟨by omega,by omega,rfl⟩))) with a1|a1
    ·omega
    ·have:=htl.so.range a1;omega
   have hs:r.s=q.s:=by omega
   have hp:r.p=q.p:=by
    rcases zAe.1 ((e r.s r.p).1 (zAe.2 (.inl ⟨by omega,by omega,rfl⟩))) with a1|a1
    ·omega
    ·have:=htm.so.range a1;omega
   have e1:q.e≤r.e:=by
    rcases Int.lt_or_le r.e q.e with h1|h1
    ·exfalso;rcases zAe.1 ((e r.e q.p).2 (zAe.2 (.inl ⟨by omega,by omega,rfl⟩))) with a1|⟨x,hx,b1,b2,b3⟩
     ·omega
     ·have:=(List.pairwise_cons.1 h.1).1 x hx
      exact this.2 (by omega) (by omega)
    ·exact h1
   have e2:r.e≤q.e:=by
    rcases Int.lt_or_le q.e r.e with h1|h1
    ·exfalso;rcases zAe.1 ((e q.e r.p).1 (zAe.2 (.inl ⟨by omega,by omega,rfl⟩))) with a1|⟨x,hx,b1,b2,b3⟩
     ·omega
     ·have:=(List.pairwise_cons.1 k.1).1 x hx
      exact this.2 (by omega) (by omega)
    ·exact h1
   have hh:r=q:=Rg.eq hs (by omega) hp;subst hh
   congr 1
   refine ih htl htm fun a p=>⟨fun hin=>?_,fun hin=>?_⟩
   ·have:=htl.so.range hin
    rcases zAe.1 ((e a p).1 (zAe.2 (.inr hin))) with a1|a1
    ·omega
    ·exact a1
   ·have:=htm.so.range hin
    rcases zAe.1 ((e a p).2 (zAe.2 (.inr hin))) with a1|a1
    ·omega
    ·exact a1
def tot:List Rg→Int
 | []=>0
 | r :: L=>(r.e - r.s)+tot L
theorem zBX (A B:List Rg):tot (A++B)=tot A+tot B:=by
 induction A with
 | nil=>simp [tot]
 | cons r A ih=>simp only [List.cons_append,tot,ih];omega
theorem So.tot_le (h:So lo hi L) (hl:lo≤hi):0≤tot L∧tot L≤hi - lo:=by
 induction L generalizing lo with
 | nil=>simp only [tot];omega
 | cons r L ih =>
  have hr:=h.2 r (List.mem_cons_self ..)
  have:=ih h.tail (by omega)
  simp only [tot];omega
theorem Al.tail (h:Al (r :: L)):Al L:=fun q hq=>h q (List.mem_cons_of_mem _ hq)
theorem Al.tot (ha:Al L):tot L%4096=0:=by
 induction L with
 | nil=>rfl
 | cons r L ih =>
  have hra:=ha r (List.mem_cons_self ..)
  have:=ih ha.tail
  simp only [YtlhpodholnfppaaGreatDoor.tot];omega
open Classical in
noncomputable def zAO (L:List Rg) (r:Rg):List Rg:=
 match L.getLast? with
 | some q=>if q.e=r.s∧q.p=r.p then L.dropLast++[⟨q.s,r.e,q.p⟩] else L++[r]
 | none=>[r]
noncomputable def join (L M:List Rg):List Rg:=M.foldl zAO L
theorem zBx (r:Rg):zAO [] r=[r]:=rfl
theorem zBw (L:List Rg) (q r:Rg) (h1:q.e=r.s) (h2:q.p=r.p):zAO (L++[q]) r=L++[⟨q.s,r.e,q.p⟩]:=by
 simp [zAO,h1,h2]
theorem zBc (L:List Rg) (q r:Rg) (h:¬ (q.e=r.s∧q.p=r.p)):zAO (L++[q]) r=L++[q]++[r]:=by
 simp only [zAO,List.getLast?_concat];rw [if_neg h]
theorem last_cases (L:List Rg):L=[]∨∃ A q,L=A++[q]:=by
 rcases List.eq_nil_or_concat L with h|⟨A,q,h⟩
 ·exact .inl h
 ·exact .inr ⟨A,q,by simpa using h⟩
theorem joinOne_all (h:Nm lo hi L) (h1:lo≤r.s) (h2:r.s<r.e) (h3:∀ q,q∈L→q.e≤r.s) (h4:r.e≤hi):
  Nm lo hi (zAO L r)∧(∀ q,q∈zAO L r→q.e≤r.e)∧(∀ a p,In (zAO L r) a p↔In L a p∨In [r] a p)∧tot (zAO L r)=tot L+(r.e - r.s)∧(Al L→r.s%4096=0→r.e%4096=0→Al (zAO L r))∧(zAO L r).length≤L.length+1∧zAO L r≠[]:=by
 rcases last_cases L with rfl|⟨A,q,rfl⟩
 ·rw [zBx];refine ⟨⟨List.pairwise_singleton _ _,fun q hq=>?_⟩,fun q hq=>?_,fun a p=>?_,by simp [tot],fun _ a1 a2 q hq=>?_,by simp,by simp⟩
  ·rw [List.mem_singleton] at hq;subst hq;omega
  ·rw [List.mem_singleton] at hq;subst hq;omega
  ·simp [zGS]
  ·rw [List.mem_singleton] at hq;subst hq;exact ⟨a1,a2⟩
 ·have hq:=h.2 q (by simp);have hqr:=h3 q (by simp);obtain ⟨p1,p2,p3⟩:=List.pairwise_append.1 h.1;have hA:∀ x,x∈A→x.e≤q.s∧(x.e=q.s→x.p≠q.p):=fun x hx=>p3 x hx q (by simp)
  by_cases hc:q.e=r.s∧q.p=r.p
  ·rw [zBw A q r hc.1 hc.2];refine ⟨⟨List.pairwise_append.2 ⟨p1,List.pairwise_singleton _ _,fun x hx y hy=>?_⟩,fun x hx=>?_⟩,fun x hx=>?_,fun a p=>?_,?_,fun ha a1 a2 x hx=>?_,by simp,by simp⟩
   ·rw [List.mem_singleton] at hy;subst hy;exact hA x hx
   ·rcases List.mem_append.1 hx with hx|hx
    ·have:=h.2 x (List.mem_append_left _ hx);omega
    ·rw [List.mem_singleton] at hx;subst hx;simp only;omega
   ·rcases List.mem_append.1 hx with hx|hx
    ·have:=hA x hx;omega
    ·rw [List.mem_singleton] at hx;subst hx;simp only;omega
   ·rw [zEP,zEP,zHA,zHA,zHA];obtain ⟨c1,c2⟩:=hc;simp only
    constructor
    ·rintro (h1|⟨b1,b2,b3⟩)
     ·exact .inl (.inl h1)
     ·by_cases h5:a<q.e
      ·exact .inl (.inr ⟨b1,h5,b3⟩)
      ·exact .inr ⟨by omega,b2,by omega⟩
    ·rintro ((h1|⟨b1,b2,b3⟩)|⟨b1,b2,b3⟩)
     ·exact .inl h1
     ·exact .inr ⟨b1,by omega,b3⟩
     ·exact .inr ⟨by omega,b2,by omega⟩
   ·rw [zBX,zBX];simp only [tot];omega
   ·rcases List.mem_append.1 hx with hx|hx
    ·exact ha x (List.mem_append_left _ hx)
    ·rw [List.mem_singleton] at hx;subst hx;exact ⟨(ha q (by simp)).1,a2⟩
  ·rw [zBc A q r hc];refine ⟨⟨List.pairwise_append.2 ⟨h.1,List.pairwise_singleton _ _,fun x hx y hy=>?_⟩,fun x hx=>?_⟩,fun x hx=>?_,fun a p=>by rw [zEP],?_,fun ha a1 a2 x hx=>?_,by simp,by simp⟩
   ·rw [List.mem_singleton] at hy;subst hy;refine ⟨h3 x hx,fun he hp=>?_⟩;rcases List.mem_append.1 hx with hx|hx
    ·have:=hA x hx;omega
    ·rw [List.mem_singleton] at hx;subst hx;exact hc ⟨he,hp⟩
   ·rcases List.mem_append.1 hx with hx|hx
    ·have:=h.2 x hx;omega
    ·rw [List.mem_singleton] at hx;subst hx;omega
   ·rcases List.mem_append.1 hx with hx|hx
    ·have:=h3 x hx;omega
    ·rw [List.mem_singleton] at hx;subst hx;omega
   ·rw [zBX];simp only [tot];omega
   ·rcases List.mem_append.1 hx with hx|hx
    ·exact ha x hx
    ·rw [List.mem_singleton] at hx;subst hx;exact ⟨a1,a2⟩
theorem zFG {M:List Rg} (h:Nm lo hi L) (k:So lo hi M) (hb:∀ q r,q∈L→r∈M→q.e≤r.s):
  Nm lo hi (join L M)∧(∀ a p,In (join L M) a p↔In L a p∨In M a p)∧tot (join L M)=tot L+tot M∧(Al L→Al M→Al (join L M))∧(join L M).length≤L.length+M.length∧(L≠[]∨M≠[]→join L M≠[])∧(∀ b,(∀ q,q∈L→q.e≤b)→(∀ q,q∈M→q.e≤b)→∀ q,q∈join L M→q.e≤b):=by
 induction M generalizing L with
 | nil=>exact ⟨h,fun a p=>by simp [join,zGS],by simp [join,tot],fun a _=>a,by simp [join],fun h=>by simpa [join] using h,fun b h1 _=>h1⟩
 | cons r M ih =>
  have hr:=k.2 r (List.mem_cons_self ..);obtain ⟨a1,a2,a3,a4,a5,a6,a7⟩:=joinOne_all h hr.1 hr.2.1 (fun q hq=>hb q r hq (List.mem_cons_self ..)) hr.2.2;have kt:=k.tail;obtain ⟨b1,b2,b3,b4,b5,b6,b7⟩:=ih a1 ⟨kt.1,fun q hq=>k.2 q (List.mem_cons_of_mem _ hq)⟩ (fun q x hq hx=>by
   have:=a2 q hq
   have:=kt.2 x hx
   omega)
  refine ⟨b1,fun a p=>?_,?_,fun c1 c2=>?_,?_,fun _=>b6 (.inl a7),fun b c1 c2=>?_⟩
  ·show In (join (zAO L r) M) a p↔_;rw [b2,a3,zHA,zAe,or_assoc]
  ·show tot (join (zAO L r) M)=_;rw [b3,a4];simp only [tot];omega
  ·have:=c2 r (List.mem_cons_self ..)
   exact b4 (a5 c1 this.1 this.2) c2.tail
  ·show (join (zAO L r) M).length≤_;simp only [List.length_cons];omega
  ·refine b7 b (fun q hq=>?_) (fun q hq=>c2 q (List.mem_cons_of_mem _ hq))
   have:=a2 q hq
   have:=c2 r (List.mem_cons_self ..)
   omega
open Classical in
noncomputable def clip (a b:Int) (r:Rg):Option Rg:=if max r.s a<min r.e b then some ⟨max r.s a,min r.e b,r.p⟩ else none
noncomputable def within (L:List Rg) (a b:Int):List Rg:=L.filterMap (clip a b)
theorem zCg {b:Int} {q:Rg} (h:clip a b r=some q):q.s=max r.s a∧q.e=min r.e b∧q.p=r.p∧q.s<q.e:=by
 unfold clip at h
 split at h
 ·cases h;exact ⟨rfl,rfl,rfl,by assumption⟩
 ·cases h
theorem zCX {b:Int} {q:Rg}:q∈within L a b↔∃ r,r∈L∧clip a b r=some q:=by
 simp [within,List.mem_filterMap]
theorem zFV {b:Int} (h:So lo hi L):So a b (within L a b):=by
 refine ⟨?_,fun q hq=>?_⟩
 ·refine List.Pairwise.filterMap (R:=fun r q=>r.e≤q.s) (clip a b) (fun r q hrq r' hr' q' hq'=>?_) h.1;obtain ⟨a1,a2,a3,a4⟩:=zCg hr';obtain ⟨b1,b2,b3,b4⟩:=zCg hq';omega
 ·obtain ⟨r,hr,hc⟩:=zCX.1 hq;obtain ⟨a1,a2,a3,a4⟩:=zCg hc;omega
theorem zHf {b:Int} (x p:Int):In (within L a b) x p↔a≤x∧x<b∧In L x p:=by
 constructor
 ·rintro ⟨q,hq,h1,h2,h3⟩;obtain ⟨r,hr,hc⟩:=zCX.1 hq;obtain ⟨a1,a2,a3,a4⟩:=zCg hc;exact ⟨by omega,by omega,r,hr,by omega,by omega,by omega⟩
 ·rintro ⟨h1,h2,r,hr,h3,h4,h5⟩;have hlt:max r.s a<min r.e b:=by omega
  exact ⟨⟨max r.s a,min r.e b,r.p⟩,zCX.2 ⟨r,hr,by unfold clip;rw [if_pos hlt]⟩,by simp only;omega,by simp only;omega,h5⟩
theorem zHg {b:Int} (h:Al L) (ha:a%4096=0) (hb:b%4096=0):Al (within L a b):=fun q hq=>by
 obtain ⟨r,hr,hc⟩:=zCX.1 hq;obtain ⟨a1,a2,a3,a4⟩:=zCg hc
 have:=h r hr
 omega
theorem zBV (L:List Rg) (a b:Int):(within L a b).length≤L.length:=List.length_filterMap_le _ _
noncomputable def layL (L:List Rg) (s e:Int) (M:List Rg):List Rg:=join (join (join [] (within L 0 s)) M) (within L e 274877906944)
theorem zJJ {M:List Rg} {s:Int} (h:So 0 274877906944 L) (hs:0≤s) (hse:s<e) (he:e≤274877906944) (hM:So s e M):
  Nm 0 274877906944 (layL L s e M)∧(∀ a p,In (layL L s e M) a p↔In M a p∨((a<s∨e≤a)∧In L a p))∧(Al L→s%4096=0→e%4096=0→Al M→Al (layL L s e M))∧(layL L s e M).length≤L.length+M.length+L.length ∧
  (∀ b,e≤b→(∀ q,q∈L→q.e≤b)→∀ q,q∈layL L s e M→q.e≤b):=by
 have w1:=zFV (a:=0) (b:=s) h;have w2:=zFV (a:=e) (b:=274877906944) h;obtain ⟨a1,a2,a3,a4,a5,a6,a7⟩:=zFG (Nm.nil 0 274877906944) (w1.mono (by omega) (by omega)) (fun q r hq _=>by cases hq);have ab:=a7 s (fun q hq=>by cases hq) (fun q hq=>(w1.2 q hq).2.2);obtain ⟨b1,b2,b3,b4,b5,b6,b7⟩:=zFG a1 (hM.mono (by omega) (by omega)) (fun q r hq hr=>by
  have:=ab q hq
  have:=hM.2 r hr
  omega)
 have bb:=b7 e (fun q hq=>by have:=ab q hq;omega) (fun q hq=>(hM.2 q hq).2.2);obtain ⟨c1,c2,c3,c4,c5,c6,c7⟩:=zFG b1 (w2.mono (by omega) (by omega)) (fun q r hq hr=>by
  have:=bb q hq
  have:=w2.2 r hr
  omega)
 refine ⟨c1,fun a p=>?_,fun ha hs0 he0 hMa=>?_,?_,fun b hb hL=>?_⟩
 ·show In (join _ _) a p↔_;rw [c2,b2,a2,zHf,zHf]
  constructor
  ·rintro (((h1|⟨h1,h2,h3⟩)|h1)|⟨h1,h2,h3⟩)
   ·exact absurd h1 (zGS _ _)
   ·exact .inr ⟨.inl h2,h3⟩
   ·exact .inl h1
   ·exact .inr ⟨.inr h1,h3⟩
  ·rintro (h1|⟨h1|h1,h2⟩)
   ·exact .inl (.inr h1)
   ·exact .inl (.inl (.inr ⟨(h.range h2).1,h1,h2⟩))
   ·exact .inr ⟨h1,(h.range h2).2,h2⟩
 ·exact c4 (b4 (a4 Al.nil (zHg ha (by omega) hs0)) hMa) (zHg ha he0 (by omega))
 ·show (join _ _).length≤_
  have:=zBV L 0 s
  have:=zBV L e 274877906944
  simp only [List.length_nil] at a5;omega
 ·refine c7 b (fun q hq=>by have:=bb q hq;omega) (fun q hq=>?_);obtain ⟨r,hr,hc⟩:=zCX.1 hq;obtain ⟨d1,d2,d3,d4⟩:=zCg hc
  have:=hL r hr
  omega
theorem one_so {s:Int} (h:s<e):So s e [⟨s,e,p⟩]:=⟨List.pairwise_singleton _ _,fun r hr=>by rw [List.mem_singleton] at hr;subst hr;simp only;omega⟩
theorem one_al {s:Int} (h1:s%4096=0) (h2:e%4096=0):Al [⟨s,e,p⟩]:=fun r hr=>by rw [List.mem_singleton] at hr;subst hr;exact ⟨h1,h2⟩
section
open Go.RowKit
structure Fr (S:Nat→Prop) (w w':World):Prop where
 os:w'.os=w.os
 tape:w'.tape=w.tape
 output:w'.output=w.output
 size:w.heap.size≤w'.heap.size
 block:∀ k,k<w.heap.size→¬ S k→w'.heap[k]?=w.heap[k]?
abbrev Bl (w w':World):Prop:=Below w.heap.size w w'
theorem Bl.refl (w:World):Bl w w:=Below.refl _ _
theorem Bl.trans {a b c:World} (h:Bl a b) (k:Bl b c):Bl a c:=Below.trans h (Below.mono k h.size)
theorem Bl.alloc {a b:World} (h:Bl a b) (o:Obj):Bl a (b.alloc o):=Below.alloc h h.size o
theorem Bl.new (a:World) (o:Obj):Bl a (a.alloc o):=(Bl.refl a).alloc o
theorem Bl.set {a b:World} (h:Bl a b) {p:Addr} (hp:a.heap.size≤p.block) (u:Value):Bl a (b.setCell p u):=Below.setCell h hp u
theorem Bl.drew {a b:World} (h:Bl a b):Bl a b.drew:=Below.drew h
theorem Bl.drewN {a b:World} (h:Bl a b) (n:Nat):Bl a (b.drewN n):=h.trans ⟨rfl,rfl,rfl,Nat.le_refl _,fun _ _=>rfl⟩
variable {B base cap g k n:Nat} {o:Obj}
theorem Below.at_ {a b:World} (h:Below B a b) (hB:k<B) (hk:a.heap[k]?=some o):b.heap[k]?=some o:=by
 rw [h.block k hB];exact hk
variable {W w:World}
theorem zG (h:w.heap[k]?=some o):k<w.heap.size:=(Array.getElem?_eq_some_iff.1 h).1
theorem Bl.at_ {a b:World} (h:Bl a b) (hk:a.heap[k]?=some o):b.heap[k]?=some o:=Below.at_ h (zG hk) hk
theorem Bl.cell' {a b:World} (h:Bl a b) {p:Addr} {v:Value} (hp:a.cell? p=some v):b.cell? p=some v:=by rw [Below.cell h (block_lt_of_cell hp)];exact hp
variable {S T:Nat→Prop}
theorem Fr.zP {a b:World} (h:Bl a b):Fr S a b:=⟨h.os,h.tape,h.output,h.size,fun k hk _=>h.block k hk⟩
theorem Fr.refl (S:Nat→Prop) (w:World):Fr S w w:=Fr.zP (Bl.refl w)
theorem Fr.trans {S:Nat → Prop} {a b c:World} (h:Fr S a b) (k:Fr S b c):Fr S a c:=
  ⟨k.os.trans h.os,k.tape.trans h.tape,k.output.trans h.output,Nat.le_trans h.size k.size,
   fun i hi hn=>(k.block i (Nat.lt_of_lt_of_le hi h.size) hn).trans (h.block i hi hn)⟩
theorem Fr.mono {a b:World} (h:Fr S a b) (hs:∀ k,k<a.heap.size→S k→T k):Fr T a b:=
 ⟨h.os,h.tape,h.output,h.size,fun k hk hn=>h.block k hk (fun e=>hn (hs k hk e))⟩
theorem Fr.bl {a b:World} (h:Fr S a b) (hs:∀ k,k<a.heap.size→¬ S k):Bl a b:=⟨h.os,h.tape,h.output,h.size,fun k hk=>h.block k hk (hs k hk)⟩
theorem Fr.set {a:World} {p:Addr} (hp:S p.block) (u:Value):Fr S a (a.setCell p u):=
 ⟨rfl,rfl,rfl,by simp [World.setCell],fun k hk hn=>Below.heap_setCell _ _ _ _ (fun e=>hn (e▸hp))⟩
theorem Fr.at_ {a b:World} (h:Fr S a b) (hk:a.heap[k]?=some o) (hn:¬ S k):b.heap[k]?=some o:=by
 rw [h.block k (zG hk) hn];exact hk
section
variable {α:Type} {c:α→List Value} {t:TypeId} {w w':World} {base:Nat} {v:Value} {L:List α}
def flat (c:α→List Value) (L:List α):List Value:=L.flatMap c
theorem zCB (c:α→List Value) (A B:List α):flat c (A++B)=flat c A++flat c B:=by simp [flat]
theorem zAv (hc:∀ x,(c x).length=3) (L:List α):(flat c L).length=L.length*3:=by
 induction L with
 | nil=>rfl
 | cons x L ih=>simp only [flat,List.flatMap_cons,List.length_append,List.length_cons] at *;rw [hc,ih];omega
theorem flat_get (hc:∀ x,(c x).length=3) (L:List α) (k j:Nat) (x:α) (hk:L[k]?=some x) (hj:j<3):(flat c L)[k*3+j]?=(c x)[j]?:=by
 induction L generalizing k with
 | nil=>cases hk
 | cons y L ih =>
  have e:flat c (y :: L)=c y++flat c L:=by simp [flat]
  rw [e];cases k with
  | zero =>
   simp only [List.getElem?_cons_zero,Option.some.injEq] at hk;subst hk;rw [List.getElem?_append_left (by rw [hc];omega)]
   congr 1;omega
  | succ k =>
   rw [List.getElem?_cons_succ] at hk;rw [List.getElem?_append_right (by rw [hc];omega),hc,show (k+1)*3+j - 3=k*3+j by omega];exact ih k hk
def RowG (t:TypeId) (c:α→List Value) (w:World) (base:Nat) (v:Value) (L:List α):Prop:=
 w.ownsRow base t 3 v L.length (flat c L)∧(L=[]→v=.slice none 0 0)
theorem RowG.nil:RowG t c w base (.slice none 0 0) []:=⟨⟨rfl,.inl ⟨rfl,rfl⟩⟩,fun _=>rfl⟩
theorem RowG.form (h:RowG t c w base v L) (hL:L≠[]):∃ g cap cur,v=.slice (some ⟨g,0,none⟩) L.length cap∧base≤g∧L.length≤cap∧w.heap[g]?=some (.cells cur t (0,0))∧g<w.heap.size:=by
 rcases h.1.2 with ⟨rfl,h0⟩|⟨g,cap,cur,rfl,h1,h2,h3,h4,h5,h6⟩
 ·exact absurd (List.eq_nil_of_length_eq_zero h0) hL
 ·exact ⟨g,cap,cur,rfl,h1,h3,h2,zG h2⟩
theorem RowG.shape (h:RowG t c w base v L):∃ A cap,v=.slice A L.length cap:=by
 rcases h.1.2 with ⟨rfl,h0⟩|⟨g,cap,cur,rfl,h1,h2,h3,h4,h5,h6⟩
 ·exact ⟨none,0,by rw [h0]⟩
 ·exact ⟨_,_,rfl⟩
theorem RowG.cell (h:RowG t c w base (.slice (some ⟨g,0,none⟩) n cap) L) (hc:∀ x,(c x).length=3) (k j:Nat) (x:α) (hk:L[k]?=some x) (hj:j<3):w.cell? ⟨g,k*3+j,none⟩=(c x)[j]?:=by
 have hlt:k<L.length:=(List.getElem?_eq_some_iff.1 hk).1;rcases h.1.2 with ⟨h1,h0⟩|⟨g',cap',cur,h1,_⟩
 ·cases h1
 ·have hn:n=L.length:=by injection h1
  subst hn;rw [h.1.cellAt (k*3+j) (by omega),flat_get hc L k j x hk hj]
theorem RowG.free (h:RowG t c w base (.slice (some ⟨g,0,none⟩) n cap) L) (j:Nat):w.frozen? ⟨g,j,none⟩=false:=by
 rcases h.1.2 with ⟨h1,h0⟩|⟨g',cap',cur,h1,_,h2,_⟩
 ·cases h1
 ·injection h1 with h3 h4;injection h3 with h3;injection h3 with h3;subst h3;simp [World.frozen?,h2]
theorem RowG.kept (h:RowG t c w base v L) (hb:∀ g,v.ownBlock=some g→w'.heap[g]?=w.heap[g]?):RowG t c w' base v L:=by
 refine ⟨⟨h.1.1,?_⟩,h.2⟩;rcases h.1.2 with h1|⟨g,cap,cur,rfl,h1,h2,h3⟩
 ·exact .inl h1
 ·exact .inr ⟨g,cap,cur,rfl,h1,by rw [hb g rfl];exact h2,h3⟩
theorem RowG.lt (h:RowG t c w base v L):∀ g,v.ownBlock=some g→base≤g∧g<w.heap.size:=h.1.lt
theorem RowG.bl (h:RowG t c w base v L) (hb:Bl w w'):RowG t c w' base v L:=h.kept fun g hg=>hb.block g (h.lt g hg).2
theorem RowG.zJX {b2:Nat} (h:RowG t c w base v L) (hb:∀ g,v.ownBlock=some g→b2≤g):RowG t c w b2 v L:=by
 refine ⟨⟨h.1.1,?_⟩,h.2⟩;rcases h.1.2 with h1|⟨g,cap,cur,rfl,h1,h2,h3⟩
 ·exact .inl h1
 ·exact .inr ⟨g,cap,cur,rfl,hb g rfl,h2,h3⟩
theorem RowG.type (h:RowG t c w base v L) (hg:v.ownBlock=some g):∃ cur,w.heap[g]?=some (.cells cur t (0,0)):=by
 rcases h.1.2 with ⟨rfl,_⟩|⟨g',cap,cur,rfl,h1,h2,h3⟩
 ·cases hg
 ·simp only [Value.ownBlock,Option.some.injEq] at hg;subst hg;exact ⟨cur,h2⟩
end
variable {t:TypeId} {z:Value}
theorem row_append {α:Type} {c:α→List Value} {ts:TypeId} {i:TypeInfo} {bytes:Nat} {v:Value} {L:List α} (ht:prog.underlying ts=some (.slice t)) (hi:prog.info? t=some i) (hz:i.zero=some z) (hsize:i.size=3) (hby:i.bytes=bytes) (hzs:z.cells.size=3) (hb1:bytes≤1000)
 (hc:∀ x,(c x).length=3) (hone:∀ x u,u∈c x→u.oneCell'=true) (h:RowG t c W base v L) (ty:TypeId) (A:Option Addr) (M:List α) (m cap:Nat) (hm:m=M.length) (hA:M=[]→A=none∧cap=0) (hcell:∀ ad,A=some ad→∀ j u,(flat c M)[j]?=some u→W.cell? (ad.add j)=some u) (hA2:M≠[]→A≠none)
 (hl:L.length+M.length≤1000000) (hbase:base≤W.heap.size):
  ∃ v' W',(Builtin.append_ #[ts,ts] ty #[v,.slice A m cap]).run prog W=.ok v' W'∧RowG t c W' base v' (L++M)∧W.grownBy W' v.ownBlock∧(v'.ownBlock=v.ownBlock∨v'.ownBlock=some W.heap.size):=by
 subst hm;rcases hM:M with _|⟨x,M'⟩
 ·obtain ⟨rfl,rfl⟩:=hA hM;exact ⟨v,W,run_append_owned_none (P:=prog) (w:=W) base ts ty t i 3 ht hi v L.length (flat c L) h.1,by simpa using h,World.grownBy.refl W _,.inl rfl⟩
 ·rw [← hM];have hne:M≠[]:=by rw [hM];simp
  rcases A with _|ad
  ·exact absurd rfl (hA2 hne)
  ·obtain ⟨v',w',h1,h2,h3,h4,h5⟩:=run_append_own_at (P:=prog) W base ts ty t i z 3 bytes ht hi hz hsize hby hzs (by omega) v L.length (flat c L) h.1 ad M.length cap (flat c M) (zAv hc M) (hcell ad rfl) (fun u hu=>by
    simp only [flat,List.mem_flatMap] at hu;obtain ⟨x,_,hx⟩:=hu;exact hone x u hx) (by simp only [maxLen];omega) (Nat.le_trans (Nat.mul_le_mul hl hb1) (by decide)) hbase
   refine ⟨v',w',h1,⟨?_,fun e=>absurd (List.append_eq_nil_iff.1 e).2 hne⟩,h3,h5⟩;rw [List.length_append,zCB];exact h2
def rgC (r:Rg):List Value:=[.int .u64 r.s,.int .u64 r.e,.int .i64 r.p]
abbrev Row:=RowG (α:=Rg) 112 rgC
theorem zDk (r:Rg):(rgC r).length=3:=rfl
theorem zJn (r:Rg) (u:Value) (h:u∈rgC r):u.oneCell'=true:=by
 simp only [rgC,List.mem_cons,List.not_mem_nil,or_false] at h;rcases h with rfl|rfl|rfl<;>rfl
theorem info51:(prog.info? 112).map (fun i=>(i.zero,i.size,i.bytes))=some (some (.agg #[.int .u64 0,.int .u64 0,.int .i64 0]),3,24):=by kernel_rfl
theorem zBt (h:Row w base (.slice (some ⟨g,0,none⟩) n cap) L) (k:Nat) (r:Rg) (hk:L[k]?=some r):
  w.cell? ⟨g,k*3,none⟩=some (.int .u64 r.s)∧w.cell? ⟨g,k*3+1,none⟩=some (.int .u64 r.e)∧w.cell? ⟨g,k*3+2,none⟩=some (.int .i64 r.p):=
 ⟨by simpa [rgC] using h.cell zDk k 0 r hk (by omega),by simpa [rgC] using h.cell zDk k 1 r hk (by omega),by simpa [rgC] using h.cell zDk k 2 r hk (by omega)⟩
structure Ctx where
 rest:List Value
 t:TypeId
 ne:t≠112
def zAT (X:Ctx) (base:Nat) (w:World) (b:Nat) (L:List Rg):Prop:=∃ v,w.heap[b]?=some (.cells (v :: X.rest).toArray X.t (0,0))∧Row w base v L
abbrev zCG (X:Ctx):=zAT X 0
def alone:Ctx:=⟨[],97,by decide⟩
variable {cs:Array Value} {fn:Func}
theorem zHD {p:Tmp} (h:fn.results=#[.cell p 31]) (tmps:Array Value) (w:World) (g:Nat) (hp:tmps.getD p undef=.pointer (some ⟨g,0,none⟩)) (hg:w.heap[g]?=some (.cells cs 31 (0,0))) (hs:cs.size=2):(results fn tmps).run prog w=.ok (.agg cs) w:=results_cell_row h tmps w g 31 cs (0,0) _ hp hg underlying31 rfl (by rw [hs];kernel_rfl)
theorem zc33r {p:Tmp} (h:fn.results=#[.cell p 33]) (tmps:Array Value) (w:World) (g:Nat) (hp:tmps.getD p undef=.pointer (some ⟨g,0,none⟩)) (hg:w.heap[g]?=some (.cells cs 33 (0,0))) (hs:cs.size=3):(results fn tmps).run prog w=.ok (.agg cs) w:=results_cell_row h tmps w g 33 cs (0,0) _ hp hg underlying33 rfl (by rw [hs];kernel_rfl)
end
section
open Go.RowKit
theorem zDr {P:Program} (ts:Array TypeId) (t:TypeId) (k k':IntKind) (x y:Int) (w:World):(Builtin.min_ ts t #[.int k x,.int k' y]).run P w=.ok (.int k (if y<x then y else x)) w:=by
 simp [Builtin.min_,Builtin.min2]
theorem zEX {P:Program} (ts:Array TypeId) (t:TypeId) (k k':IntKind) (x y:Int) (w:World):(Builtin.max_ ts t #[.int k x,.int k' y]).run P w=.ok (.int k (if x<y then y else x)) w:=by
 simp [Builtin.max_,Builtin.max2]
variable {b base:Nat} {W w:World}
theorem zCm {v:Value} (h:Row W base v L) (q:Rg) (g:Nat) (ty:TypeId) (hg:W.heap[g]?=some (.cells #[.int .u64 q.s,.int .u64 q.e,.int .i64 q.p] 112 (0,0))) (hl:L.length≤100000) (hbase:base≤W.heap.size):
  ∃ v' W',(Builtin.append_ #[95,95] ty #[v,.slice (some ⟨g,0,none⟩) 1 1]).run prog W=.ok v' W'∧Row W' base v' (L++[q])∧W.grownBy W' v.ownBlock∧(v'.ownBlock=v.ownBlock∨v'.ownBlock=some W.heap.size):=by
 obtain ⟨i0,hi0,hz0,hz1,hz2⟩:=info_parts info51;refine row_append (t:=112) (ts:=95) underlying95 hi0 hz0 hz1 hz2 rfl (by omega) zDk zJn h ty (some ⟨g,0,none⟩) [q] 1 1 rfl (fun e=>by cases e) (fun ad had j u hj=>?_) (fun _ e=>by cases e) (by simp;omega) hbase;cases had;have e1:(⟨g,0,none⟩:Addr).add j=⟨g,j,none⟩:=by unfold Addr.add;split<;>simp_all
 rw [e1,cell_of_row W g j _ 112 (0,0) hg]
 simpa [flat,rgC] using hj
def zB (b:Nat):Value:=.pointer (some ⟨b,0,none⟩)
def zHe (w:World) (L:List Rg) (e:Ending) (w':World):Prop:=∃ v,e=.returned v∧Row w' w.heap.size v L∧Bl w w'
theorem within_take (L:List Rg) (a b:Int) (k:Nat) (r:Rg) (hk:L[k]?=some r):within (L.take (k+1)) a b=within (L.take k) a b++(clip a b r).toList:=by
 rw [List.take_add_one,hk];simp only [within,List.filterMap_append,Option.toList];cases h:clip a b r<;>simp [h]
variable {X:Ctx}
theorem zDK (h:zCG X w b L) (a c:Int) (hl:L.length≤1000):
  Calls prog 147 #[zB b,.int .u64 a,.int .u64 c] w (zHe w (within L a c)):=by
 obtain ⟨v,hb,hr⟩:=h;obtain ⟨A,cap,rfl⟩:=hr.shape;have hcell:w.cell? ⟨b,0,none⟩=some (.slice A L.length cap):=by rw [cell_of_row w b 0 _ _ (0,0) hb];simp
 have hlI:(L.length:Int)≤1000:=by omega
 have HR:=hid hr;clear hr;have HB:=hid hb;clear hb;obtain ⟨n,hn⟩:∃ n,n=L.length:=⟨_,rfl⟩;rw [← hn] at hcell hlI HR;have HN:=hid hn;clear hn;have HL:=hid hl;clear hl;unfold zB;go_enter func147,ntmps147;go_wp2_with fail
 go_loopw [7,9,15] (fun v7 _ i wr=>∃ k:Nat,k≤n∧i=.int .i64 k∧Row wr w.heap.size v7 (within (L.take k) a c)∧Bl w wr) (fun _ _ i _=>n - (intOf i).toNat)
 case atStart=>exact ⟨0,by omega,rfl,RowG.nil,Bl.refl _⟩
 case round =>
  obtain ⟨k,hk,rfl,hrow,hbl⟩:=hrel;have HROW:=hid hrow;clear hrow;have HBL:=hid hbl;clear hbl;by_cases hlt:k<n
  ·have hltL:k<L.length:=by have:=HN.out;omega
   obtain ⟨r,hr⟩:∃ r,L[k]?=some r:=⟨L[k],List.getElem?_eq_getElem hltL⟩;have hne:L≠[]:=by intro e;rw [e] at hltL;simp at hltL
   obtain ⟨g,cap',cur,hA,_,hnc,hg,_⟩:=HR.out.form hne;have hA':A=some ⟨g,0,none⟩:=by injection hA
   subst hA';obtain ⟨c0,c1,c2⟩:=zBt (HR.out.bl HBL.out) k r hr;clear hA hnc hg hne hltL;have HRK:=hid hr;clear hr;have hkI:(k:Int)<(n:Int):=by omega
   obtain ⟨m1,hm1⟩:∃ m1,m1=max r.s a:=⟨_,rfl⟩;obtain ⟨m2,hm2⟩:∃ m2,m2=min r.e c:=⟨_,rfl⟩;have mx:∀ ts t W,(Builtin.max_ ts t #[.int .u64 r.s,.int .u64 a]).run prog W=.ok (.int .u64 m1) W:=fun ts t W=>by
    rw [zEX];congr 2;rw [hm1];omega
   have mn:∀ ts t W,(Builtin.min_ ts t #[.int .u64 r.e,.int .u64 c]).run prog W=.ok (.int .u64 m2) W:=fun ts t W=>by
    rw [zDr];congr 2;rw [hm2];omega
   have hclip:clip a c r=if m1<m2 then some ⟨m1,m2,r.p⟩ else none:=by rw [hm1,hm2];unfold clip;split<;>rfl
   have hstep:=within_take L a c k r HRK.out;rw [hclip] at hstep;have hwl:(within (L.take k) a c).length≤1000:=by
    have h1:=zBV (L.take k) a c;have h2:=HL.out;rw [List.length_take] at h1;omega
   clear hclip hm1 hm2;have HS:=hid hstep;clear hstep;have HWL:=hid hwl;clear hwl;by_cases hc:m1<m2
   ·have hb2:Bl w ((wr.alloc (.cells #[.int .u64 m1,.int .u64 m2,.int .i64 r.p] 112)).alloc (.cells #[.int .u64 m1,.int .u64 m2,.int .i64 r.p] 112)):=(HBL.out.alloc _).alloc _;have hrow2:=(HROW.out.bl (Bl.new _ (.cells #[.int .u64 m1,.int .u64 m2,.int .i64 r.p] 112))).bl (Bl.new _ (.cells #[.int .u64 m1,.int .u64 m2,.int .i64 r.p] 112));obtain ⟨v',W',hrun,hrow3,hgr,_⟩:=zCm hrow2 ⟨m1,m2,r.p⟩ (wr.heap.size+1) 95 (by
     have:=heap_alloc_new (wr.alloc (.cells #[.int .u64 m1,.int .u64 m2,.int .i64 r.p] 112)) (.cells #[.int .u64 m1,.int .u64 m2,.int .i64 r.p] 112)
     rw [show (wr.alloc (.cells #[.int .u64 m1,.int .u64 m2,.int .i64 r.p] 112)).heap.size=wr.heap.size+1 by simp] at this;exact this) (by have:=HWL.out;omega) hb2.size
    have hbl3:Bl w W':=Below.grown hb2 hgr hb2.size (fun q hq=>(hrow2.lt q hq).1);have HROW3:=hid hrow3;clear hrow3 hrow2 hb2 hgr;have HBL3:=hid hbl3;clear hbl3;have HRUN:=hid hrun;clear hrun;go_wp2_with (first|(at_builtin;refine zY rfl (.tmp 34) (.tmp 36) 95 rfl _ _ _ rfl rfl HRUN.out ?_));refine ⟨⟨k+1,by omega,by go_num,by rw [HS.out,if_pos hc];exact HROW3.out,HBL3.out⟩,?_⟩;simp only [intOf];omega
   ·have hb2:Bl w (wr.alloc (.cells #[.int .u64 m1,.int .u64 m2,.int .i64 r.p] 112)):=HBL.out.alloc _;have hrow2:=HROW.out.bl (Bl.new _ (.cells #[.int .u64 m1,.int .u64 m2,.int .i64 r.p] 112));have HB2:=hid hb2;clear hb2;have HROW2:=hid hrow2;clear hrow2;go_wp2_with fail;refine ⟨⟨k+1,by omega,by go_num,by rw [HS.out,if_neg hc];simpa using HROW2.out,HB2.out⟩,?_⟩;simp only [intOf];omega
  ·obtain rfl:k=n:=by omega
   have hfin:=HROW.out;rw [HN.out,List.take_length] at hfin;have HF:=hid hfin;clear hfin;go_wp2_with fail;go_ret;exact ⟨_,rfl,HF.out,HBL.out⟩
end
section
open Go.RowKit
theorem zAJ {k:IntKind} {b:Int} {c:Bool} (h:a=b):Ending.returned (.tuple #[.int k a,.bool c])=.returned (.tuple #[.int k b,.bool c]):=by rw [h]
theorem nin {k:Int} (h:¬ op=k):(op==k)=false:=beq_eq_false_iff_ne.2 h
theorem zm {k:IntKind} {b:Int} (h:a=b):Ending.returned (.int k a)=.returned (.int k b):=by rw [h]
theorem zCn {a b:Bool} (h:a=b):Ending.returned (.bool a)=.returned (.bool b):=by rw [h]
def zV (x b:Int):Int:=if 1≤b∧b≤64 then sx x b.toNat else x
theorem zCL (x b:Int) (w:World) :
  Calls prog 129 #[.int .u64 x,.int .i64 b] w fun e w'=>e=.returned (.int .u64 (zV x b))∧w=w':=by
 by_cases hb:1≤b∧b≤64
 ·obtain ⟨h1,h2⟩:=hb;obtain ⟨n,rfl⟩:=zze (show 0≤b by omega);have hs:=hid (shifts x n (by omega) (by omega));go_enter func129,ntmps129;go_wp2;go_ret;exact ⟨zm (by rw [hs.out];unfold zV;rw [if_pos ⟨h1,h2⟩];rfl),rfl⟩
 ·by_cases h1:b<1
  ·go_enter func129,ntmps129;go_wp2;go_ret;exact ⟨zm (by unfold zV;rw [if_neg hb]),rfl⟩
  ·have h2:64<b:=by omega
   go_enter func129,ntmps129;go_wp2;go_ret;exact ⟨zm (by unfold zV;rw [if_neg hb]),rfl⟩
theorem zEg (x i:Int) (w:World) (hx0:0≤x) (hi0:0≤i) (hi:i<64) :
  Calls prog 98 #[.int .u64 x,.int .i64 i] w fun e w'=>e=.returned (.int .u64 (x/2^i.toNat%2))∧w=w':=by
 obtain ⟨X,rfl⟩:=zze hx0;obtain ⟨n,rfl⟩:=zze hi0;go_enter func98,ntmps98;go_wp2;go_ret;exact ⟨zm (by rw [Int.toNat_natCast];exact Int.tmod_eq_emod_of_nonneg (Int.ediv_nonneg (by omega) (Int.le_of_lt (za _)))),rfl⟩
theorem zZ (x b:Int) (w:World) (hx0:0≤x) :
  Calls prog 58 #[.int .u64 x,.int .i64 b] w fun e w'=>e=.returned (.int .u64 (zV x b))∧w=w':=by
 by_cases hb:1≤b∧b≤64
 ·obtain ⟨h1,h2⟩:=hb;obtain ⟨n,rfl⟩:=zze (show 0≤b by omega);have fin:zV x (n:Int)=sx x n:=by unfold zV;rw [if_pos ⟨h1,h2⟩];rfl
  rw [fin];clear fin;go_enter func58,ntmps58;go_wp2
  go_loop [5,6] (fun o i=>∃ k:Nat,k≤64∧i=.int .i64 k∧o=.int .u64 (sx x n%2^k)) (fun _ i=>64 - (intOf i).toNat)
  case atStart=>exact ⟨0,by omega,rfl,by simp [Int.emod_one]⟩
  case round =>
   obtain ⟨k,hk,rfl,rfl⟩:=hrel;by_cases hlt:k<64
   ·by_cases hkn:k≤n - 1
    ·have hs:=hid (sx_bit x n k (by omega) hlt);have ho:=hid (or_bit (sx x n) k hlt);have hc:(k:Int)≤(n:Int) - 1:=by omega
     go_wp2_with fail;refine (zEg _ _ _ hx0 (by omega) (by omega)).mono ?_;rintro e w' ⟨rfl,rfl⟩;go_wp2
     go_round
     case rel=>exact ⟨k+1,by omega,by go_num,by rw [← ho.out,hs.out,Nat.min_eq_left hkn]⟩
     case measure=>simp [intOf];omega
    ·have hs:=hid (sx_bit x n k (by omega) hlt);have ho:=hid (or_bit (sx x n) k hlt);have hc:(n:Int) - 1<(k:Int):=by omega
     have hn:((n:Int) - 1).toNat=n - 1:=by omega
     have hN:=hid hn;clear hn;go_wp2_with fail;refine (zEg _ _ _ hx0 (by omega) (by omega)).mono ?_;rintro e w' ⟨rfl,rfl⟩;rw [hN.out];go_wp2
     go_round
     case rel=>exact ⟨k+1,by omega,by go_num,by rw [← ho.out,hs.out,Nat.min_eq_right (by omega)]⟩
     case measure=>simp [intOf];omega
   ·obtain rfl:k=64:=by omega
    go_wp2;go_ret;exact ⟨zm (Int.emod_eq_of_lt (zJc x n).1 (zJc x n).2),rfl⟩
 ·by_cases h1:b<1
  ·go_enter func58,ntmps58;go_wp2;go_ret;exact ⟨zm (by unfold zV;rw [if_neg hb]),rfl⟩
  ·have h2:64<b:=by omega
   go_enter func58,ntmps58;go_wp2;go_ret;exact ⟨zm (by unfold zV;rw [if_neg hb]),rfl⟩
def zAs (x:Int):Bool:=x/2^63%2==1
theorem zBh (x:Int) (h0:0≤x) (h:x<18446744073709551616):zAs x=true↔9223372036854775808≤x:=by
 unfold zAs;rw [beq_iff_eq,show (2:Int)^63=9223372036854775808 from rfl];omega
theorem isNeg_wrap (x:Int) (h0:0≤x) (h:x<18446744073709551616):zAs x=true↔wrap64 x<0:=by
 rw [zBh x h0 h];unfold wrap64;omega
theorem zx (x:Int) (w:World) (hx0:0≤x) :
  Calls prog 137 #[.int .u64 x] w fun e w'=>e=.returned (.bool (zAs x))∧w=w':=by
 go_enter func137,ntmps137;go_wp2_with fail;refine (zEg _ _ _ hx0 (by omega) (by omega)).mono ?_;rintro e w' ⟨rfl,rfl⟩;rw [show (63:Int).toNat=63 from rfl];go_wp2;go_ret;exact ⟨rfl,rfl⟩
theorem zFE (a b:Int) (w:World) (ha0:0≤a) (ha:a<18446744073709551616) (hb0:0≤b) (hb:b<18446744073709551616) :
  Calls prog 95 #[.int .u64 a,.int .u64 b] w fun e w'=>e=.returned (.bool (decide (wrap64 a<wrap64 b)))∧w=w':=by
 have na:=zBh a ha0 ha;have nb:=zBh b hb0 hb;cases hna:zAs a<;>cases hnb:zAs b
 ·have e:decide (wrap64 a<wrap64 b)=decide (a<b):=by
   rw [hna] at na;rw [hnb] at nb;simp at na nb;unfold wrap64;exact decide_eq_decide.2 (by omega)
  rw [e];clear e na nb;have HA:=hid hna;clear hna;have HB:=hid hnb;clear hnb;go_enter func95,ntmps95;go_wp2_with fail;refine (zx a _ ha0).mono ?_;rintro e w' ⟨rfl,rfl⟩;rw [HA.out];go_wp2_with fail;refine (zx b _ hb0).mono ?_;rintro e w' ⟨rfl,rfl⟩;rw [HB.out];go_wp2;go_ret;exact ⟨rfl,rfl⟩
 ·have e:decide (wrap64 a<wrap64 b)=false:=by
   rw [hna] at na;rw [hnb] at nb;simp at na nb;unfold wrap64;exact zzf (by omega)
  rw [e];clear e na nb;have HA:=hid hna;clear hna;have HB:=hid hnb;clear hnb;go_enter func95,ntmps95;go_wp2_with fail;refine (zx a _ ha0).mono ?_;rintro e w' ⟨rfl,rfl⟩;rw [HA.out];go_wp2_with fail;refine (zx b _ hb0).mono ?_;rintro e w' ⟨rfl,rfl⟩;rw [HB.out];go_wp2_with fail;refine (zx a _ ha0).mono ?_;rintro e w' ⟨rfl,rfl⟩;rw [HA.out];go_wp2;go_ret;exact ⟨rfl,rfl⟩
 ·have e:decide (wrap64 a<wrap64 b)=true:=by
   rw [hna] at na;rw [hnb] at nb;simp at na nb;unfold wrap64;exact decide_eq_true (by omega)
  rw [e];clear e na nb;have HA:=hid hna;clear hna;have HB:=hid hnb;clear hnb;go_enter func95,ntmps95;go_wp2_with fail;refine (zx a _ ha0).mono ?_;rintro e w' ⟨rfl,rfl⟩;rw [HA.out];go_wp2_with fail;refine (zx b _ hb0).mono ?_;rintro e w' ⟨rfl,rfl⟩;rw [HB.out];go_wp2_with fail;refine (zx a _ ha0).mono ?_;rintro e w' ⟨rfl,rfl⟩;rw [HA.out];go_wp2;go_ret;exact ⟨rfl,rfl⟩
 ·have e:decide (wrap64 a<wrap64 b)=decide (a<b):=by
   rw [hna] at na;rw [hnb] at nb;simp at na nb;unfold wrap64;exact decide_eq_decide.2 (by omega)
  rw [e];clear e na nb;have HA:=hid hna;clear hna;have HB:=hid hnb;clear hnb;go_enter func95,ntmps95;go_wp2_with fail;refine (zx a _ ha0).mono ?_;rintro e w' ⟨rfl,rfl⟩;rw [HA.out];go_wp2_with fail;refine (zx b _ hb0).mono ?_;rintro e w' ⟨rfl,rfl⟩;rw [HB.out];go_wp2;go_ret;exact ⟨rfl,rfl⟩
end
section
open Go.RowKit
def awid (op:Int):Nat:=if 63≤op∧op≤73 then 4 else if 74≤op∧op≤84 then 8 else 0
theorem zIQ (h:63≤op∧op≤73):awid op=4:=if_pos h
theorem zIP (h:74≤op∧op≤84):awid op=8:=by unfold awid;rw [if_neg (by omega),if_pos h]
theorem zGN (h:op<63∨84<op):awid op=0:=by unfold awid;rw [if_neg (by omega),if_neg (by omega)]
theorem awid_one (op:Int):awid op=4∨awid op=8∨awid op=0:=by
 rcases (by omega:(63≤op∧op≤73)∨(74≤op∧op≤84)∨(op<63∨84<op)) with h|h|h
 ·exact .inl (zIQ h)
 ·exact .inr (.inl (zIP h))
 ·exact .inr (.inr (zGN h))
theorem zAQ (op:Int) (w:World):Calls prog 86 #[.int .i64 op] w fun e w'=>e=.returned (.int .i64 (awid op))∧w=w':=by
 rcases (by omega:op<63∨(63≤op∧op≤73)∨(74≤op∧op≤84)∨84<op) with h|⟨h,h'⟩|⟨h,h'⟩|h
 ·rw [zGN (.inl h)];go_enter func86,ntmps86;go_wp2;go_ret;exact ⟨rfl,rfl⟩
 ·rw [zIQ ⟨h,h'⟩];go_enter func86,ntmps86;go_wp2;go_ret;exact ⟨rfl,rfl⟩
 ·rw [zIP ⟨h,h'⟩];go_enter func86,ntmps86;go_wp2;go_ret;exact ⟨rfl,rfl⟩
 ·rw [zGN (.inr h)];go_enter func86,ntmps86;go_wp2;go_ret;exact ⟨rfl,rfl⟩
theorem zAG (op:Int) (w:World):Calls prog 99 #[.int .i64 op] w fun e w'=>e=.returned (.int .i64 (awid op))∧w=w':=by
 rcases (by omega:op<63∨(63≤op∧op≤73)∨(74≤op∧op≤84)∨84<op) with h|⟨h,h'⟩|⟨h,h'⟩|h
 ·rw [zGN (.inl h)];go_enter func99,ntmps99;go_wp2;go_ret;exact ⟨rfl,rfl⟩
 ·rw [zIQ ⟨h,h'⟩];go_enter func99,ntmps99;go_wp2;go_ret;exact ⟨rfl,rfl⟩
 ·rw [zIP ⟨h,h'⟩];go_enter func99,ntmps99;go_wp2;go_ret;exact ⟨rfl,rfl⟩
 ·rw [zGN (.inr h)];go_enter func99,ntmps99;go_wp2;go_ret;exact ⟨rfl,rfl⟩
theorem alow_any (x:Int) (n:Nat) (w:World) (hn:n=0∨n=32∨n=64) (h0:0≤x) (h:x<18446744073709551616):Calls prog 212 #[.int .u64 x,.int .i64 n] w fun e w'=>e=.returned (.int .u64 (x%2^n))∧w=w':=by
 obtain ⟨X,rfl⟩:=zze h0;rcases hn with rfl|rfl|rfl
 ·have e:bits .and .u64 (X:Int) 0=(X:Int)%2^0:=by
   have:=u64_and_nat X 0 (by omega) (by decide)
   rw [Nat.and_zero] at this;rw [Int.pow_zero,Int.emod_one];exact this
  have E:=hid e;clear e;go_enter func212,ntmps212;go_wp2;go_ret;exact ⟨zm E.out,rfl⟩
 ·have e:bits .and .u64 (X:Int) 4294967295=(X:Int)%2^32:=by
   have:=u64_and_nat X 4294967295 (by omega) (by decide)
   rw [show X &&& 4294967295=X%2^32 from Nat.and_two_pow_sub_one_eq_mod X 32] at this;exact this.trans (by rw [Int.natCast_emod];rfl)
  have E:=hid e;clear e;go_enter func212,ntmps212;go_wp2;go_ret;exact ⟨zm E.out,rfl⟩
 ·have e:bits .and .u64 (X:Int) 18446744073709551615=(X:Int)%2^64:=by
   have:=u64_and_nat X 18446744073709551615 (by omega) (by decide)
   rw [show X &&& 18446744073709551615=X%2^64 from Nat.and_two_pow_sub_one_eq_mod X 64] at this;exact this.trans (by rw [Int.natCast_emod];rfl)
  have E:=hid e;clear e;go_enter func212,ntmps212;go_wp2;go_ret;exact ⟨zm E.out,rfl⟩
def zEs (op a b:Int):Int:=
 if op=65∨op=76 then b
 else if op=66∨op=77 then IntKind.u64.wrap (a+b)
 else if op=67∨op=78 then bits .xor .u64 a b
 else if op=68∨op=79 then bits .and .u64 a b
 else if op=69∨op=80 then bits .or .u64 a b
 else if op=70∨op=81 then IntKind.u64.wrap (if wrap64 b<wrap64 a then wrap64 b else wrap64 a)
 else if op=71∨op=82 then IntKind.u64.wrap (if wrap64 a<wrap64 b then wrap64 b else wrap64 a)
 else if op=72∨op=83 then (if b<a then b else a)
 else if op=73∨op=84 then (if a<b then b else a)
 else 0
def zu:List Int:=[65,76,66,77,67,78,68,79,69,80,70,81,71,82,72,83,73,84]
theorem reck_yes (op a b:Int) (w:World) (hop:op∈zu) :
  Calls prog 211 #[.int .i64 op,.int .u64 a,.int .u64 b] w fun e w'=>e=.returned (.tuple #[.int .u64 (zEs op a b),.bool true])∧w=w':=by
 have h1:∀ W,(Builtin.min_ #[2,2] 2 #[.int .i64 (wrap64 a),.int .i64 (wrap64 b)]).run prog W=.ok (.int .i64 (if wrap64 b<wrap64 a then wrap64 b else wrap64 a)) W:=fun W=>by rw [zDr]
 have h2:∀ W,(Builtin.max_ #[2,2] 2 #[.int .i64 (wrap64 a),.int .i64 (wrap64 b)]).run prog W=.ok (.int .i64 (if wrap64 a<wrap64 b then wrap64 b else wrap64 a)) W:=fun W=>by rw [zEX]
 have h3:∀ W,(Builtin.min_ #[29,29] 29 #[.int .u64 a,.int .u64 b]).run prog W=.ok (.int .u64 (if b<a then b else a)) W:=fun W=>by rw [zDr]
 have h4:∀ W,(Builtin.max_ #[29,29] 29 #[.int .u64 a,.int .u64 b]).run prog W=.ok (.int .u64 (if a<b then b else a)) W:=fun W=>by rw [zEX]
 obtain ⟨m1,e1⟩:∃ m,m=(if wrap64 b<wrap64 a then wrap64 b else wrap64 a):=⟨_,rfl⟩;obtain ⟨m2,e2⟩:∃ m,m=(if wrap64 a<wrap64 b then wrap64 b else wrap64 a):=⟨_,rfl⟩;obtain ⟨m3,e3⟩:∃ m,m=(if b<a then b else a):=⟨_,rfl⟩;obtain ⟨m4,e4⟩:∃ m,m=(if a<b then b else a):=⟨_,rfl⟩;unfold zEs;rw [← e1,← e2,← e3,← e4];rw [← e1] at h1;rw [← e2] at h2;rw [← e3] at h3;rw [← e4] at h4;clear e1 e2 e3 e4;simp only [zu,List.mem_cons,zzm,or_false] at hop;rcases hop with rfl|rfl|rfl|rfl|rfl|rfl|rfl|rfl|rfl|rfl|rfl|rfl|rfl|rfl|rfl|rfl|rfl|rfl;all_goals
  go_enter func211,ntmps211;go_wp2;go_ret2;exact ⟨rfl,rfl⟩
theorem reck_no (op a b:Int) (w:World) (hop:op ∉ zu) :
  Calls prog 211 #[.int .i64 op,.int .u64 a,.int .u64 b] w fun e w'=>e=.returned (.tuple #[.int .u64 0,.bool false])∧w=w':=by
 simp only [zu,List.mem_cons,zzm,or_false,not_or] at hop;obtain ⟨h1,h2,h3,h4,h5,h6,h7,h8,h9,h10,h11,h12,h13,h14,h15,h16,h17,h18⟩:=hop;replace h1:=nin h1;replace h2:=nin h2;replace h3:=nin h3;replace h4:=nin h4;replace h5:=nin h5;replace h6:=nin h6;replace h7:=nin h7;replace h8:=nin h8;replace h9:=nin h9;replace h10:=nin h10;replace h11:=nin h11;replace h12:=nin h12;replace h13:=nin h13;replace h14:=nin h14;replace h15:=nin h15;replace h16:=nin h16;replace h17:=nin h17;replace h18:=nin h18;go_enter func211,ntmps211;go_wp2;go_ret2;exact ⟨rfl,rfl⟩
theorem zHL {b:Int} (hop:op ∉ zu):zEs op a b=0:=by
 simp only [zu,List.mem_cons,zzm,or_false,not_or] at hop;unfold zEs;obtain ⟨h1,h2,h3,h4,h5,h6,h7,h8,h9,h10,h11,h12,h13,h14,h15,h16,h17,h18⟩:=hop;simp [h1,h2,h3,h4,h5,h6,h7,h8,h9,h10,h11,h12,h13,h14,h15,h16,h17,h18]
theorem reck_any (op a b:Int) (w:World) :
  Calls prog 211 #[.int .i64 op,.int .u64 a,.int .u64 b] w fun e w'=>e=.returned (.tuple #[.int .u64 (zEs op a b),.bool (decide (op∈zu))])∧w=w':=by
 by_cases h:op∈zu
 ·rw [decide_eq_true h];exact reck_yes op a b w h
 ·rw [zzf h,zHL h];exact reck_no op a b w h
theorem zHE (k:BinOp) (hk:k=.xor∨k=.and∨k=.or) (a b:Int) (a0:0≤a) (a1:a<18446744073709551616) (b0:0≤b) (b1:b<18446744073709551616):0≤bits k .u64 a b∧bits k .u64 a b<18446744073709551616:=by
 obtain ⟨A,rfl⟩:=zze a0;obtain ⟨B,rfl⟩:=zze b0;rcases hk with rfl|rfl|rfl
 ·rw [u64_xor_nat A B (by omega) (by omega)]
  have:=Nat.xor_lt_two_pow (n:=64) (x:=A) (y:=B) (by omega) (by omega)
  omega
 ·rw [u64_and_nat A B (by omega) (by omega)]
  have:=Nat.and_lt_two_pow (n:=64) A (y:=B) (by omega)
  omega
 ·rw [u64_or_nat A B (by omega) (by omega)]
  have:=Nat.or_lt_two_pow (n:=64) (x:=A) (y:=B) (by omega) (by omega)
  omega
theorem reckV_bd (op a b:Int) (a0:0≤a) (a1:a<18446744073709551616) (b0:0≤b) (b1:b<18446744073709551616):0≤zEs op a b∧zEs op a b<18446744073709551616:=by
 have q1:=zHE .xor (by simp) a b a0 a1 b0 b1;have q2:=zHE .and (by simp) a b a0 a1 b0 b1;have q3:=zHE .or (by simp) a b a0 a1 b0 b1;unfold zEs;generalize bits .xor .u64 a b=X at *;generalize bits .and .u64 a b=Y at *;generalize bits .or .u64 a b=Z at *;simp only [IntKind.wrap_u64]
 repeat' split
 all_goals omega
theorem zCM (x:Int) (b:Int) (h0:0≤x) (h:x<18446744073709551616):0≤zV x b∧zV x b<18446744073709551616:=by
 unfold zV;split
 ·exact zJc x _
 ·exact ⟨h0,h⟩
def amoV (op a b:Int):Int:=zEs op (zV a (8*awid op:Nat)) (zV b (8*awid op:Nat))%2^(8*awid op)
def zJY (op:Int):Bool:=decide (op∈zu)
theorem do_any (op a b:Int) (w:World) (a0:0≤a) (a1:a<18446744073709551616) (b0:0≤b) (b1:b<18446744073709551616) :
  Calls prog 179 #[.int .i64 op,.int .u64 a,.int .u64 b] w fun e w'=>e=.returned (.tuple #[.int .u64 (amoV op a b),.bool (zJY op)])∧w=w':=by
 unfold amoV zJY;have hwo:=awid_one op;have cw:=zAQ op;have cr:=fun x y w=>reck_any op x y w
 generalize decide (op∈zu)=ok at *;obtain ⟨n,hn⟩:∃ n,n=8*awid op:=⟨_,rfl⟩;rw [← hn];have hn3:n=0∨n=32∨n=64:=by omega
 have hm:IntKind.i64.wrap (8*(awid op:Int))=(n:Int):=by rw [hn];rcases hwo with h|h|h<;>rw [h]<;>rfl
 have HM:=hid hm;clear hm;have sa:=zCM a n a0 a1;have sb:=zCM b n b0 b1;have hr:=reckV_bd op _ _ sa.1 sa.2 sb.1 sb.2;have ca:=fun w=>zCL a n w
 have cb:=fun w=>zCL b n w
 have cl:=fun w=>alow_any _ n w hn3 hr.1 hr.2
 clear hwo hn hr sa sb a0 a1 b0 b1 hn3;generalize awid op=k at *;generalize zV a n=A at *;generalize zV b n=B at *;have cr2:=fun w=>cr A B w
 clear cr;generalize zEs op A B=R at *;generalize R%2^n=Q at *;have CW:=hid cw;clear cw;have CA:=hid ca;clear ca;have CB:=hid cb;clear cb;have CR:=hid cr2;clear cr2;have CL:=hid cl;clear cl;go_enter func179,ntmps179;go_wp2_with fail;refine (CW.out _).mono ?_;rintro e w' ⟨rfl,rfl⟩;have hm:=HM.out;go_wp2_with fail;refine (CA.out _).mono ?_;rintro e w' ⟨rfl,rfl⟩;go_wp2_with fail;refine (CB.out _).mono ?_;rintro e w' ⟨rfl,rfl⟩;go_wp2_with fail;refine (CR.out _).mono ?_;rintro e w' ⟨rfl,rfl⟩;go_wp2_with fail;refine (CL.out _).mono ?_;rintro e w' ⟨rfl,rfl⟩;go_wp2_with fail;go_ret2;exact ⟨rfl,rfl⟩
end
section
open Go.RowKit
theorem rput0 (x:Int) (n:Nat) (h1:1≤n) (h8:n≤8) (w:World):Calls prog 16 #[.slice none 0 0,.int .u64 x,.int .i64 n] w fun e w'=>∃ B c,e=.returned (.slice B n c)∧Rd w' B (putB x n)∧Bl w w':=by
 refine (refPut_in none 0 0 [] x n w Rd.nil_ rfl (fun _=>rfl) (by omega) h1 h8).mono ?_;rintro e w' ⟨B,c,rfl,h,k⟩;exact ⟨B,c,by simp,by simpa using h,k⟩
theorem rget0 (B:Option Addr) (c:Nat) (x:Int) (n:Nat) (h1:1≤n) (h8:n≤8) (w:World) (h:Rd w B (putB x n)):Calls prog 90 #[.slice B n c,.int .i64 n] w fun e w'=>e=.returned (.int .u64 (x%2^(8*n)))∧w=w':=by
 refine (zFq B n c _ n w h (zBJ x n) (by omega) h1 h8 (zHN x n)).mono ?_;rintro e w' ⟨rfl,rfl⟩;exact ⟨by rw [Nat.min_self,getS_putB x n n (zzr _)],rfl⟩
def refV (op A B:Int) (lt lu gu:Bool):Int:=
 if op=65∨op=76 then B
 else if op=66∨op=77 then IntKind.u64.wrap (A+B)
 else if op=67∨op=78 then bits .xor .u64 A B
 else if op=68∨op=79 then bits .and .u64 A B
 else if op=69∨op=80 then bits .or .u64 A B
 else if op=70∨op=81 then (if lt then A else B)
 else if op=71∨op=82 then (if lt then B else A)
 else if op=72∨op=83 then (if lu then A else B)
 else (if gu then A else B)
structure zBS (n:Nat) (a b A B SA SB:Int) (lt:Bool):Prop where
 pa:∀ w,Calls prog 16 #[.slice none 0 0,.int .u64 a,.int .i64 n] w fun e w'=>∃ q c,e=.returned (.slice q n c)∧Rd w' q (putB a n)∧Bl w w'
 pb:∀ w,Calls prog 16 #[.slice none 0 0,.int .u64 b,.int .i64 n] w fun e w'=>∃ q c,e=.returned (.slice q n c)∧Rd w' q (putB b n)∧Bl w w'
 py:∀ y w,Calls prog 16 #[.slice none 0 0,.int .u64 y,.int .i64 n] w fun e w'=>∃ q c,e=.returned (.slice q n c)∧Rd w' q (putB y n)∧Bl w w'
 ga:∀ q c w,Rd w q (putB a n)→Calls prog 90 #[.slice q n c,.int .i64 n] w fun e w'=>e=.returned (.int .u64 A)∧w=w'
 gb:∀ q c w,Rd w q (putB b n)→Calls prog 90 #[.slice q n c,.int .i64 n] w fun e w'=>e=.returned (.int .u64 B)∧w=w'
 gy:∀ q c y w,Rd w q (putB y n)→Calls prog 90 #[.slice q n c,.int .i64 n] w fun e w'=>e=.returned (.int .u64 (y%2^(8*n)))∧w=w'
 sa:∀ w,Calls prog 58 #[.int .u64 A,.int .i64 (8*n:Nat)] w fun e w'=>e=.returned (.int .u64 SA)∧w=w'
 sb:∀ w,Calls prog 58 #[.int .u64 B,.int .i64 (8*n:Nat)] w fun e w'=>e=.returned (.int .u64 SB)∧w=w'
 le:∀ w,Calls prog 95 #[.int .u64 SA,.int .u64 SB] w fun e w'=>e=.returned (.bool lt)∧w=w'
theorem zDS (n:Nat) (a b:Int) (h1:1≤n) (h8:n≤8) (a0:0≤a) (a1:a<18446744073709551616) (b0:0≤b) (b1:b<18446744073709551616) :
  zBS n a b (a%2^(8*n)) (b%2^(8*n)) (zV (a%2^(8*n)) (8*n:Nat)) (zV (b%2^(8*n)) (8*n:Nat)) (decide (wrap64 (zV (a%2^(8*n)) (8*n:Nat))<wrap64 (zV (b%2^(8*n)) (8*n:Nat)))):=by
 have hp:=za (8*n);have f:∀ x:Int,0≤x→x<18446744073709551616→0≤x%2^(8*n)∧x%2^(8*n)<18446744073709551616:=fun x h0 h=>by
  have q1:=Int.emod_nonneg x (show (2:Int)^(8*n)≠0 by omega);have q2:=Int.mul_ediv_add_emod x (2^(8*n));have q3:=Int.mul_nonneg (Int.le_of_lt hp) (Int.ediv_nonneg h0 (Int.le_of_lt hp));omega
 have fa:=f a a0 a1;have fb:=f b b0 b1;have ga:=zCM _ (8*n:Nat) fa.1 fa.2;have gb:=zCM _ (8*n:Nat) fb.1 fb.2;exact ⟨fun w=>rput0 a n h1 h8 w,fun w=>rput0 b n h1 h8 w,fun y w=>rput0 y n h1 h8 w,fun q c w h=>rget0 q c a n h1 h8 w h,fun q c w h=>rget0 q c b n h1 h8 w h,fun q c y w h=>rget0 q c y n h1 h8 w h,
  fun w=>zZ _ _ w fa.1,fun w=>zZ _ _ w fb.1,fun w=>zFE _ _ w ga.1 ga.2 gb.1 gb.2⟩
theorem amo4 (op a b A B SA SB:Int) (lt lu gu:Bool) (w:World) (hv:zBS 4 a b A B SA SB lt) (h:(op∈([65,66,67,68,69]:List Int))∨(lt=true∧op∈([70,71]:List Int))∨(lt=false∧op∈([70,71]:List Int))∨(lu=true∧A<B∧op∈([72]:List Int))∨(lu=false∧B≤A∧op∈([72]:List Int))∨(gu=true∧B<A∧op∈([73]:List Int))∨(gu=false∧A≤B∧op∈([73]:List Int))) :
  Calls prog 100 #[.int .i64 op,.int .u64 a,.int .u64 b] w fun e w'=>e=.returned (.tuple #[.int .u64 (refV op A B lt lu gu%2^32),.bool true])∧Bl w w':=by
 have HV:=hid hv;clear hv;simp only [List.mem_cons,zzm,or_false] at h;have cw:∀ w,Calls prog 99 #[.int .i64 op] w fun e w'=>e=.returned (.int .i64 4)∧w=w':=fun w=>by
  have:=zAG op w
  rwa [show awid op=4 by rcases h with (rfl|rfl|rfl|rfl|rfl)|⟨_,rfl|rfl⟩|⟨_,rfl|rfl⟩|⟨_,_,rfl⟩|⟨_,_,rfl⟩|⟨_,_,rfl⟩|⟨_,_,rfl⟩<;>rfl] at this
 have CW:=hid cw;clear cw;rcases h with (rfl|rfl|rfl|rfl|rfl)|⟨rfl,rfl|rfl⟩|⟨rfl,rfl|rfl⟩|⟨rfl,hA,rfl⟩|⟨rfl,hA,rfl⟩|⟨rfl,hA,rfl⟩|⟨rfl,hA,rfl⟩;all_goals
  go_enter func100,ntmps100;go_wp2_with fail;refine (CW.out _).mono ?_;rintro e w' ⟨rfl,rfl⟩;go_wp2_with fail;refine (HV.out.pa _).mono ?_;rintro e w1 ⟨q1,c1,rfl,r1,k1⟩;have R1:=hid r1;clear r1;have K1:=hid k1;clear k1;go_wp2_with fail;refine (HV.out.ga _ _ _ R1.out).mono ?_;rintro e w' ⟨rfl,rfl⟩;go_wp2_with fail;refine (HV.out.pb _).mono ?_;rintro e w2 ⟨q2,c2,rfl,r2,k2⟩;have R2:=hid r2;clear r2;have K2:=hid k2;clear k2;go_wp2_with fail;refine (HV.out.gb _ _ _ R2.out).mono ?_;rintro e w' ⟨rfl,rfl⟩;go_wp2_with fail;refine (HV.out.sa _).mono ?_;rintro e w' ⟨rfl,rfl⟩;go_wp2_with fail;refine (HV.out.sb _).mono ?_;rintro e w' ⟨rfl,rfl⟩;go_wp2_with fail;refine (HV.out.le _).mono ?_;rintro e w' ⟨rfl,rfl⟩;go_wp2_with fail;refine (HV.out.py _ _).mono ?_;rintro e w3 ⟨q3,c3,rfl,r3,k3⟩;have R3:=hid r3;clear r3;have K3:=hid k3;clear k3;go_wp2_with fail;refine (HV.out.gy _ _ _ _ R3.out).mono ?_;rintro e w' ⟨rfl,rfl⟩;go_wp2_with fail;go_ret2;exact ⟨rfl,K1.out.trans (K2.out.trans K3.out)⟩
def amoP4 (op a b A B SA SB:Int) (lt lu gu:Bool) (w:World) (hv:zBS 4 a b A B SA SB lt) (hop:op∈([65,66,67,68,69]:List Int)):=amo4 op a b A B SA SB lt lu gu w hv (.inl hop)
def amoS4t (op a b A B SA SB:Int) (lt lu gu:Bool) (w:World) (hv:zBS 4 a b A B SA SB lt) (hlt:lt=true) (hop:op∈([70,71]:List Int)):=amo4 op a b A B SA SB lt lu gu w hv (.inr (.inl ⟨hlt,hop⟩))
def amoS4f (op a b A B SA SB:Int) (lt lu gu:Bool) (w:World) (hv:zBS 4 a b A B SA SB lt) (hlt:lt=false) (hop:op∈([70,71]:List Int)):=amo4 op a b A B SA SB lt lu gu w hv (.inr (.inr (.inl ⟨hlt,hop⟩)))
def amoU4t (op a b A B SA SB:Int) (lt lu gu:Bool) (w:World) (hv:zBS 4 a b A B SA SB lt) (hlu:lu=true) (hA:A<B) (hop:op∈([72]:List Int)):=amo4 op a b A B SA SB lt lu gu w hv (.inr (.inr (.inr (.inl ⟨hlu,hA,hop⟩))))
def amoU4f (op a b A B SA SB:Int) (lt lu gu:Bool) (w:World) (hv:zBS 4 a b A B SA SB lt) (hlu:lu=false) (hA:B≤A) (hop:op∈([72]:List Int)):=amo4 op a b A B SA SB lt lu gu w hv (.inr (.inr (.inr (.inr (.inl ⟨hlu,hA,hop⟩)))))
def amoV4t (op a b A B SA SB:Int) (lt lu gu:Bool) (w:World) (hv:zBS 4 a b A B SA SB lt) (hgu:gu=true) (hA:B<A) (hop:op∈([73]:List Int)):=amo4 op a b A B SA SB lt lu gu w hv (.inr (.inr (.inr (.inr (.inr (.inl ⟨hgu,hA,hop⟩))))))
def amoV4f (op a b A B SA SB:Int) (lt lu gu:Bool) (w:World) (hv:zBS 4 a b A B SA SB lt) (hgu:gu=false) (hA:A≤B) (hop:op∈([73]:List Int)):=amo4 op a b A B SA SB lt lu gu w hv (.inr (.inr (.inr (.inr (.inr (.inr (⟨hgu,hA,hop⟩)))))))
theorem amoN4 (op a b A B SA SB:Int) (lt lu gu:Bool) (w:World) (hv:zBS 4 a b A B SA SB lt) (hop:op∈([63,64]:List Int)) :
  Calls prog 100 #[.int .i64 op,.int .u64 a,.int .u64 b] w fun e w'=>e=.returned (.tuple #[.int .u64 (0),.bool false])∧Bl w w':=by
 have HV:=hid hv;clear hv;have cw:∀ w,Calls prog 99 #[.int .i64 op] w fun e w'=>e=.returned (.int .i64 4)∧w=w':=fun w=>by
  have:=zAG op w
  rwa [show awid op=4 by simp only [List.mem_cons,zzm,or_false] at hop;rcases hop with rfl|rfl<;>rfl] at this
 have CW:=hid cw;clear cw;simp only [List.mem_cons,zzm,or_false] at hop;rcases hop with rfl|rfl;all_goals
  go_enter func100,ntmps100;go_wp2_with fail;refine (CW.out _).mono ?_;rintro e w' ⟨rfl,rfl⟩;go_wp2_with fail;refine (HV.out.pa _).mono ?_;rintro e w1 ⟨q1,c1,rfl,r1,k1⟩;have R1:=hid r1;clear r1;have K1:=hid k1;clear k1;go_wp2_with fail;refine (HV.out.ga _ _ _ R1.out).mono ?_;rintro e w' ⟨rfl,rfl⟩;go_wp2_with fail;refine (HV.out.pb _).mono ?_;rintro e w2 ⟨q2,c2,rfl,r2,k2⟩;have R2:=hid r2;clear r2;have K2:=hid k2;clear k2;go_wp2_with fail;refine (HV.out.gb _ _ _ R2.out).mono ?_;rintro e w' ⟨rfl,rfl⟩;go_wp2_with fail;refine (HV.out.sa _).mono ?_;rintro e w' ⟨rfl,rfl⟩;go_wp2_with fail;refine (HV.out.sb _).mono ?_;rintro e w' ⟨rfl,rfl⟩;go_wp2_with fail;refine (HV.out.le _).mono ?_;rintro e w' ⟨rfl,rfl⟩;go_wp2_with fail;go_ret2;exact ⟨rfl,K1.out.trans K2.out⟩
theorem amo8 (op a b A B SA SB:Int) (lt lu gu:Bool) (w:World) (hv:zBS 8 a b A B SA SB lt) (h:(op∈([76,77,78,79,80]:List Int))∨(lt=true∧op∈([81,82]:List Int))∨(lt=false∧op∈([81,82]:List Int))∨(lu=true∧A<B∧op∈([83]:List Int))∨(lu=false∧B≤A∧op∈([83]:List Int))∨(gu=true∧B<A∧op∈([84]:List Int))∨(gu=false∧A≤B∧op∈([84]:List Int))) :
  Calls prog 100 #[.int .i64 op,.int .u64 a,.int .u64 b] w fun e w'=>e=.returned (.tuple #[.int .u64 (refV op A B lt lu gu%2^64),.bool true])∧Bl w w':=by
 have HV:=hid hv;clear hv;simp only [List.mem_cons,zzm,or_false] at h;have cw:∀ w,Calls prog 99 #[.int .i64 op] w fun e w'=>e=.returned (.int .i64 8)∧w=w':=fun w=>by
  have:=zAG op w
  rwa [show awid op=8 by rcases h with (rfl|rfl|rfl|rfl|rfl)|⟨_,rfl|rfl⟩|⟨_,rfl|rfl⟩|⟨_,_,rfl⟩|⟨_,_,rfl⟩|⟨_,_,rfl⟩|⟨_,_,rfl⟩<;>rfl] at this
 have CW:=hid cw;clear cw;rcases h with (rfl|rfl|rfl|rfl|rfl)|⟨rfl,rfl|rfl⟩|⟨rfl,rfl|rfl⟩|⟨rfl,hA,rfl⟩|⟨rfl,hA,rfl⟩|⟨rfl,hA,rfl⟩|⟨rfl,hA,rfl⟩;all_goals
  go_enter func100,ntmps100;go_wp2_with fail;refine (CW.out _).mono ?_;rintro e w' ⟨rfl,rfl⟩;go_wp2_with fail;refine (HV.out.pa _).mono ?_;rintro e w1 ⟨q1,c1,rfl,r1,k1⟩;have R1:=hid r1;clear r1;have K1:=hid k1;clear k1;go_wp2_with fail;refine (HV.out.ga _ _ _ R1.out).mono ?_;rintro e w' ⟨rfl,rfl⟩;go_wp2_with fail;refine (HV.out.pb _).mono ?_;rintro e w2 ⟨q2,c2,rfl,r2,k2⟩;have R2:=hid r2;clear r2;have K2:=hid k2;clear k2;go_wp2_with fail;refine (HV.out.gb _ _ _ R2.out).mono ?_;rintro e w' ⟨rfl,rfl⟩;go_wp2_with fail;refine (HV.out.sa _).mono ?_;rintro e w' ⟨rfl,rfl⟩;go_wp2_with fail;refine (HV.out.sb _).mono ?_;rintro e w' ⟨rfl,rfl⟩;go_wp2_with fail;refine (HV.out.le _).mono ?_;rintro e w' ⟨rfl,rfl⟩;go_wp2_with fail;refine (HV.out.py _ _).mono ?_;rintro e w3 ⟨q3,c3,rfl,r3,k3⟩;have R3:=hid r3;clear r3;have K3:=hid k3;clear k3;go_wp2_with fail;refine (HV.out.gy _ _ _ _ R3.out).mono ?_;rintro e w' ⟨rfl,rfl⟩;go_wp2_with fail;go_ret2;exact ⟨rfl,K1.out.trans (K2.out.trans K3.out)⟩
def amoP8 (op a b A B SA SB:Int) (lt lu gu:Bool) (w:World) (hv:zBS 8 a b A B SA SB lt) (hop:op∈([76,77,78,79,80]:List Int)):=amo8 op a b A B SA SB lt lu gu w hv (.inl hop)
def amoS8t (op a b A B SA SB:Int) (lt lu gu:Bool) (w:World) (hv:zBS 8 a b A B SA SB lt) (hlt:lt=true) (hop:op∈([81,82]:List Int)):=amo8 op a b A B SA SB lt lu gu w hv (.inr (.inl ⟨hlt,hop⟩))
def amoS8f (op a b A B SA SB:Int) (lt lu gu:Bool) (w:World) (hv:zBS 8 a b A B SA SB lt) (hlt:lt=false) (hop:op∈([81,82]:List Int)):=amo8 op a b A B SA SB lt lu gu w hv (.inr (.inr (.inl ⟨hlt,hop⟩)))
def amoU8t (op a b A B SA SB:Int) (lt lu gu:Bool) (w:World) (hv:zBS 8 a b A B SA SB lt) (hlu:lu=true) (hA:A<B) (hop:op∈([83]:List Int)):=amo8 op a b A B SA SB lt lu gu w hv (.inr (.inr (.inr (.inl ⟨hlu,hA,hop⟩))))
def amoU8f (op a b A B SA SB:Int) (lt lu gu:Bool) (w:World) (hv:zBS 8 a b A B SA SB lt) (hlu:lu=false) (hA:B≤A) (hop:op∈([83]:List Int)):=amo8 op a b A B SA SB lt lu gu w hv (.inr (.inr (.inr (.inr (.inl ⟨hlu,hA,hop⟩)))))
def amoV8t (op a b A B SA SB:Int) (lt lu gu:Bool) (w:World) (hv:zBS 8 a b A B SA SB lt) (hgu:gu=true) (hA:B<A) (hop:op∈([84]:List Int)):=amo8 op a b A B SA SB lt lu gu w hv (.inr (.inr (.inr (.inr (.inr (.inl ⟨hgu,hA,hop⟩))))))
def amoV8f (op a b A B SA SB:Int) (lt lu gu:Bool) (w:World) (hv:zBS 8 a b A B SA SB lt) (hgu:gu=false) (hA:A≤B) (hop:op∈([84]:List Int)):=amo8 op a b A B SA SB lt lu gu w hv (.inr (.inr (.inr (.inr (.inr (.inr (⟨hgu,hA,hop⟩)))))))
theorem amoN8 (op a b A B SA SB:Int) (lt lu gu:Bool) (w:World) (hv:zBS 8 a b A B SA SB lt) (hop:op∈([74,75]:List Int)) :
  Calls prog 100 #[.int .i64 op,.int .u64 a,.int .u64 b] w fun e w'=>e=.returned (.tuple #[.int .u64 (0),.bool false])∧Bl w w':=by
 have HV:=hid hv;clear hv;have cw:∀ w,Calls prog 99 #[.int .i64 op] w fun e w'=>e=.returned (.int .i64 8)∧w=w':=fun w=>by
  have:=zAG op w
  rwa [show awid op=8 by simp only [List.mem_cons,zzm,or_false] at hop;rcases hop with rfl|rfl<;>rfl] at this
 have CW:=hid cw;clear cw;simp only [List.mem_cons,zzm,or_false] at hop;rcases hop with rfl|rfl;all_goals
  go_enter func100,ntmps100;go_wp2_with fail;refine (CW.out _).mono ?_;rintro e w' ⟨rfl,rfl⟩;go_wp2_with fail;refine (HV.out.pa _).mono ?_;rintro e w1 ⟨q1,c1,rfl,r1,k1⟩;have R1:=hid r1;clear r1;have K1:=hid k1;clear k1;go_wp2_with fail;refine (HV.out.ga _ _ _ R1.out).mono ?_;rintro e w' ⟨rfl,rfl⟩;go_wp2_with fail;refine (HV.out.pb _).mono ?_;rintro e w2 ⟨q2,c2,rfl,r2,k2⟩;have R2:=hid r2;clear r2;have K2:=hid k2;clear k2;go_wp2_with fail;refine (HV.out.gb _ _ _ R2.out).mono ?_;rintro e w' ⟨rfl,rfl⟩;go_wp2_with fail;refine (HV.out.sa _).mono ?_;rintro e w' ⟨rfl,rfl⟩;go_wp2_with fail;refine (HV.out.sb _).mono ?_;rintro e w' ⟨rfl,rfl⟩;go_wp2_with fail;refine (HV.out.le _).mono ?_;rintro e w' ⟨rfl,rfl⟩;go_wp2_with fail;go_ret2;exact ⟨rfl,K1.out.trans K2.out⟩
theorem amoZ (op a b:Int) (w:World) (h:op<63∨84<op):Calls prog 100 #[.int .i64 op,.int .u64 a,.int .u64 b] w fun e w'=>e=.returned (.tuple #[.int .u64 0,.bool false])∧Bl w w':=by
 have cw:∀ w,Calls prog 99 #[.int .i64 op] w fun e w'=>e=.returned (.int .i64 0)∧w=w':=fun w=>by
  have:=zAG op w
  rwa [zGN h] at this
 have CW:=hid cw;clear cw;clear h;go_enter func100,ntmps100;go_wp2_with fail;refine (CW.out _).mono ?_;rintro e w' ⟨rfl,rfl⟩;go_wp2_with fail;go_ret2;exact ⟨rfl,Bl.refl _⟩
theorem zEz (x:Int) (h0:0≤x) (h:x<18446744073709551616):zV x 64=x:=by
 unfold zV sx low;simp;omega
theorem zDM (x:Int):zV x 32=((x+2147483648)%4294967296 - 2147483648)%18446744073709551616:=by
 unfold zV sx low;rw [if_pos (by omega)];rfl
theorem zEf (k:BinOp) (hk:k=.xor∨k=.and∨k=.or) (a b A B:Int) (a0:0≤a) (a1:a<18446744073709551616) (b0:0≤b) (b1:b<18446744073709551616) (A0:0≤A) (A1:A<18446744073709551616) (B0:0≤B) (B1:B<18446744073709551616)
  (ha:a%4294967296=A%4294967296) (hb:b%4294967296=B%4294967296):bits k .u64 a b%4294967296=bits k .u64 A B%4294967296:=by
 obtain ⟨x,rfl⟩:=zze a0;obtain ⟨y,rfl⟩:=zze b0;obtain ⟨X,rfl⟩:=zze A0;obtain ⟨Y,rfl⟩:=zze B0;have h1:x%2^32=X%2^32:=by omega
 have h2:y%2^32=Y%2^32:=by omega
 rcases hk with rfl|rfl|rfl
 ·rw [u64_xor_nat x y (by omega) (by omega),u64_xor_nat X Y (by omega) (by omega)];have e:=Nat.xor_mod_two_pow (a:=x) (b:=y) (n:=32);have f:=Nat.xor_mod_two_pow (a:=X) (b:=Y) (n:=32);rw [h1,h2,← f] at e;omega
 ·rw [u64_and_nat x y (by omega) (by omega),u64_and_nat X Y (by omega) (by omega)];have e:=Nat.and_mod_two_pow (a:=x) (b:=y) (n:=32);have f:=Nat.and_mod_two_pow (a:=X) (b:=Y) (n:=32);rw [h1,h2,← f] at e;omega
 ·rw [u64_or_nat x y (by omega) (by omega),u64_or_nat X Y (by omega) (by omega)];have e:=Nat.or_mod_two_pow (a:=x) (b:=y) (n:=32);have f:=Nat.or_mod_two_pow (a:=X) (b:=Y) (n:=32);rw [h1,h2,← f] at e;omega
end
section
open Go.RowKit
theorem amoV_d (op a b:Int) (h:74≤op∧op≤84) (a0:0≤a) (a1:a<18446744073709551616) (b0:0≤b) (b1:b<18446744073709551616):amoV op a b=zEs op a b%18446744073709551616:=by
 unfold amoV;rw [zIP h];rw [show ((8*8:Nat):Int)=64 from rfl,zEz a a0 a1,zEz b b0 b1]
 rfl
theorem amoV_w (op a b:Int) (h:63≤op∧op≤73):amoV op a b=zEs op (zV a 32) (zV b 32)%4294967296:=by
 unfold amoV;rw [zIQ h]
 rfl
theorem amo_eq_d (op a b:Int) (hop:op∈([76,77,78,79,80,81,82,83,84]:List Int)) (a0:0≤a) (a1:a<18446744073709551616) (b0:0≤b) (b1:b<18446744073709551616) :
  amoV op a b=refV op a b (decide (wrap64 a<wrap64 b)) (decide (a<b)) (decide (b<a))%18446744073709551616:=by
 rw [amoV_d op a b (by simp at hop;omega) a0 a1 b0 b1];simp only [List.mem_cons,zzm,or_false] at hop;rcases hop with rfl|rfl|rfl|rfl|rfl|rfl|rfl|rfl|rfl
 ·rfl
 ·rfl
 ·rfl
 ·rfl
 ·rfl
 ·show IntKind.u64.wrap (if wrap64 b<wrap64 a then wrap64 b else wrap64 a)%18446744073709551616=(if decide (wrap64 a<wrap64 b)=true then a else b)%18446744073709551616;simp only [decide_eq_true_eq,IntKind.wrap_u64];unfold wrap64;repeat' split
  all_goals omega
 ·show IntKind.u64.wrap (if wrap64 a<wrap64 b then wrap64 b else wrap64 a)%18446744073709551616=(if decide (wrap64 a<wrap64 b)=true then b else a)%18446744073709551616;simp only [decide_eq_true_eq,IntKind.wrap_u64];unfold wrap64;repeat' split
  all_goals omega
 ·show (if b<a then b else a)%18446744073709551616=(if decide (a<b)=true then a else b)%18446744073709551616;simp only [decide_eq_true_eq];repeat' split
  all_goals omega
 ·show (if a<b then b else a)%18446744073709551616=(if decide (b<a)=true then a else b)%18446744073709551616;simp only [decide_eq_true_eq];repeat' split
  all_goals omega
theorem amo_eq_w (op a b A B:Int) (hop:op∈([65,66,67,68,69,70,71,72,73]:List Int)) (hA:A=a%4294967296) (hB:B=b%4294967296) (a0:0≤a) (a1:a<18446744073709551616) (b0:0≤b) (b1:b<18446744073709551616) :
  amoV op a b=refV op A B (decide (wrap64 (zV A 32)<wrap64 (zV B 32))) (decide (A<B)) (decide (B<A))%4294967296:=by
 rw [amoV_w op a b (by simp at hop;omega)];have sa:zV A 32=zV a 32:=by rw [zDM,zDM];omega
 have sb:zV B 32=zV b 32:=by rw [zDM,zDM];omega
 rw [sa,sb];have ea:=zDM a;have eb:=zDM b;have ba:=zCM a 32 a0 a1;have bb:=zCM b 32 b0 b1;generalize zV a 32=P at *;generalize zV b 32=Q at *;clear sa sb;have hP:P%4294967296=A:=by omega
 have hQ:Q%4294967296=B:=by omega
 have gA:0≤A∧A<4294967296:=by omega
 have gB:0≤B∧B<4294967296:=by omega
 simp only [List.mem_cons,zzm,or_false] at hop;rcases hop with rfl|rfl|rfl|rfl|rfl|rfl|rfl|rfl|rfl
 ·show Q%4294967296=B%4294967296;omega
 ·show IntKind.u64.wrap (P+Q)%4294967296=IntKind.u64.wrap (A+B)%4294967296;simp only [IntKind.wrap_u64];omega
 ·exact zEf .xor (by simp) P Q A B ba.1 ba.2 bb.1 bb.2 gA.1 (by omega) gB.1 (by omega) (by omega) (by omega)
 ·exact zEf .and (by simp) P Q A B ba.1 ba.2 bb.1 bb.2 gA.1 (by omega) gB.1 (by omega) (by omega) (by omega)
 ·exact zEf .or (by simp) P Q A B ba.1 ba.2 bb.1 bb.2 gA.1 (by omega) gB.1 (by omega) (by omega) (by omega)
 ·show IntKind.u64.wrap (if wrap64 Q<wrap64 P then wrap64 Q else wrap64 P)%4294967296=(if decide (wrap64 P<wrap64 Q)=true then A else B)%4294967296;simp only [decide_eq_true_eq,IntKind.wrap_u64];unfold wrap64;repeat' split
  all_goals omega
 ·show IntKind.u64.wrap (if wrap64 P<wrap64 Q then wrap64 Q else wrap64 P)%4294967296=(if decide (wrap64 P<wrap64 Q)=true then B else A)%4294967296;simp only [decide_eq_true_eq,IntKind.wrap_u64];unfold wrap64;repeat' split
  all_goals omega
 ·show (if Q<P then Q else P)%4294967296=(if decide (A<B)=true then A else B)%4294967296;simp only [decide_eq_true_eq];repeat' split
  all_goals omega
 ·show (if P<Q then Q else P)%4294967296=(if decide (B<A)=true then A else B)%4294967296;simp only [decide_eq_true_eq];repeat' split
  all_goals omega
theorem zKg (op a b:Int) (w:World) (a0:0≤a) (a1:a<18446744073709551616) (b0:0≤b) (b1:b<18446744073709551616) :
  Calls prog 100 #[.int .i64 op,.int .u64 a,.int .u64 b] w fun e w'=>e=.returned (.tuple #[.int .u64 (amoV op a b),.bool (zJY op)])∧Bl w w':=by
 by_cases hz:op<63∨84<op
 ·have hno:op ∉ zu:=by simp only [zu,List.mem_cons,zzm,or_false];omega
  unfold amoV zJY;rw [zHL hno,zzf hno,Int.zero_emod];exact amoZ op a b w hz
 ·by_cases hN:op∈zu
  ·unfold zJY;rw [decide_eq_true hN];have hv4:=zDS 4 a b (by omega) (by omega) a0 a1 b0 b1;have hv8:=zDS 8 a b (by omega) (by omega) a0 a1 b0 b1;rw [show (2:Int)^(8*4)=4294967296 from rfl,show ((8*4:Nat):Int)=32 from rfl] at hv4;rw [show (2:Int)^(8*8)=18446744073709551616 from rfl,show ((8*8:Nat):Int)=64 from rfl,show a%18446744073709551616=a by omega,show b%18446744073709551616=b by omega,zEz a a0 a1,zEz b b0 b1] at hv8;have e4:=fun h=>amo_eq_w op a b _ _ h rfl rfl a0 a1 b0 b1
   have e8:=fun h=>amo_eq_d op a b h a0 a1 b0 b1
   generalize a%4294967296=A at hv4 e4;generalize b%4294967296=B at hv4 e4;obtain ⟨l4,hl4⟩:∃ l4,l4=decide (wrap64 (zV A 32)<wrap64 (zV B 32)):=⟨_,rfl⟩;obtain ⟨l8,hl8⟩:∃ l8,l8=decide (wrap64 a<wrap64 b):=⟨_,rfl⟩;rw [← hl4] at hv4 e4;rw [← hl8] at hv8 e8;clear hl4 hl8;by_cases h8:74≤op
   ·rw [e8 (by simp only [zu,List.mem_cons,zzm,or_false] at hN ⊢;omega)];by_cases g1:op≤80
    ·exact amoP8 op a b a b _ _ _ _ _ w hv8 (by simp only [zu,List.mem_cons,zzm,or_false] at hN ⊢;omega)
    ·by_cases g2:op≤82
     ·rcases l8 with _|_
      ·exact amoS8f op a b a b _ _ _ _ _ w hv8 rfl (by simp only [zu,List.mem_cons,zzm,or_false] at hN ⊢;omega)
      ·exact amoS8t op a b a b _ _ _ _ _ w hv8 rfl (by simp only [zu,List.mem_cons,zzm,or_false] at hN ⊢;omega)
     ·by_cases g3:op=83
      ·by_cases hl:a<b
       ·exact amoU8t op a b a b _ _ _ _ _ w hv8 (decide_eq_true hl) hl (by simp [g3])
       ·exact amoU8f op a b a b _ _ _ _ _ w hv8 (zzf hl) (by omega) (by simp [g3])
      ·by_cases hl:b<a
       ·exact amoV8t op a b a b _ _ _ _ _ w hv8 (decide_eq_true hl) hl (by simp only [zu,List.mem_cons,zzm,or_false] at hN ⊢;omega)
       ·exact amoV8f op a b a b _ _ _ _ _ w hv8 (zzf hl) (by omega) (by simp only [zu,List.mem_cons,zzm,or_false] at hN ⊢;omega)
   ·rw [e4 (by simp only [zu,List.mem_cons,zzm,or_false] at hN ⊢;omega)];by_cases g1:op≤69
    ·exact amoP4 op a b A B _ _ _ _ _ w hv4 (by simp only [zu,List.mem_cons,zzm,or_false] at hN ⊢;omega)
    ·by_cases g2:op≤71
     ·rcases l4 with _|_
      ·exact amoS4f op a b A B _ _ _ _ _ w hv4 rfl (by simp only [zu,List.mem_cons,zzm,or_false] at hN ⊢;omega)
      ·exact amoS4t op a b A B _ _ _ _ _ w hv4 rfl (by simp only [zu,List.mem_cons,zzm,or_false] at hN ⊢;omega)
     ·by_cases g3:op=72
      ·by_cases hl:A<B
       ·exact amoU4t op a b A B _ _ _ _ _ w hv4 (decide_eq_true hl) hl (by simp [g3])
       ·exact amoU4f op a b A B _ _ _ _ _ w hv4 (zzf hl) (by omega) (by simp [g3])
      ·by_cases hl:B<A
       ·exact amoV4t op a b A B _ _ _ _ _ w hv4 (decide_eq_true hl) hl (by simp only [zu,List.mem_cons,zzm,or_false] at hN ⊢;omega)
       ·exact amoV4f op a b A B _ _ _ _ _ w hv4 (zzf hl) (by omega) (by simp only [zu,List.mem_cons,zzm,or_false] at hN ⊢;omega)
  ·unfold zJY;rw [zzf hN];unfold amoV;rw [zHL hN,Int.zero_emod];have hop:op=63∨op=64∨op=74∨op=75:=by simp only [zu,List.mem_cons,zzm,or_false] at hN;omega
   have hv4:=zDS 4 a b (by omega) (by omega) a0 a1 b0 b1;have hv8:=zDS 8 a b (by omega) (by omega) a0 a1 b0 b1;by_cases h8:74≤op
   ·exact amoN8 op a b _ _ _ _ _ false false w hv8 (by simp only [List.mem_cons,zzm,or_false];omega)
   ·exact amoN4 op a b _ _ _ _ _ false false w hv4 (by simp only [List.mem_cons,zzm,or_false];omega)
end
section
open Go.RowKit
section
variable (a b:Int) (a0:0≤a) (a1:a<18446744073709551616) (b0:0≤b) (b1:b<18446744073709551616)
include a0 a1 b0 b1
end
end
end Go.Proofs.YtlhpodholnfppaaGreatDoor
