/-
  Part of the proof.
-/
import Derived.Test.YtlhpodholnfppaaGreatDoorZ8
set_option linter.unusedVariables false
set_option linter.unusedSimpArgs false
set_option maxHeartbeats 16000000
set_option maxRecDepth 100000
set_option linter.defProp false
open Go.Lib (hid)
namespace Go.Proofs.YtlhpodholnfppaaGreatDoor
open Go.Proofs.Tryz
open Go.RowKit
variable {a ba c en fa fk hn k' mo op:Int}
theorem zHJ {k:IntKind} {b d:Int} (h:a=b) (h':c=d):Ending.returned (.tuple #[.int k a,.int k c])=.returned (.tuple #[.int k b,.int k d]):=by rw [h,h']
theorem zDT (a b:Int) (w:World) (ha0:0≤a) (ha:a<18446744073709551616) (hb0:0<b) (hb:b<18446744073709551616) :
  Calls prog 167 #[.int .u64 a,.int .u64 b] w fun e w'=>e=.returned (.tuple #[.int .u64 (a/b),.int .u64 (a%b)])∧w=w':=by
 have st:a/2^64=0:=Int.ediv_eq_zero_of_lt ha0 ha;have ST:=hid st;clear st;go_enter func167,ntmps167;go_wp2
 go_loop [6,7,8] (fun q r i=>∃ k:Nat,k≤64∧i=.int .i64 (63 - k)∧q=.int .u64 (a/2^(64 - k)/b)∧r=.int .u64 (a/2^(64 - k)%b)) (fun _ _ i=>(intOf i+1).toNat)
 case atStart=>exact ⟨0,by omega,rfl,by rw [ST.out,Int.zero_ediv],by rw [ST.out,Int.zero_emod]⟩
 case round =>
  obtain ⟨k,hk,rfl,rfl,rfl⟩:=hrel;have hr0:0≤a/2^(64 - k)%b:=Int.emod_nonneg _ (by omega);have hr1:a/2^(64 - k)%b<b:=Int.emod_lt_of_pos _ (by omega);have hq0:0≤a/2^(64 - k)/b:=Int.ediv_nonneg (Int.ediv_nonneg ha0 (Int.le_of_lt (za _))) (by omega);by_cases hlt:k<64
  ·generalize hq:a/2^(64 - k)/b=q at *;generalize hr:a/2^(64 - k)%b=r at *;generalize hcc:a/2^(64 - (k+1))%2=c;have HQ:=hid hq;clear hq;have HR:=hid hr;clear hr;have HC:=hid hcc;clear hcc;have ht:(63 - (k:Int)).toNat=64 - (k+1):=by omega
   have HT:=hid ht;clear ht;go_wp2_with fail;refine (zx _ _ (by omega)).mono ?_;rintro e w' ⟨rfl,rfl⟩;go_wp2_with fail;refine (zEg _ _ _ ha0 (by omega) (by omega)).mono ?_;rintro e w' ⟨rfl,rfl⟩;rw [HT.out,HC.out];go_wp2
   ·go_round
    case rel =>
     have hd:=zKX a b q r c k hlt ha0 ha hb0 hb HQ.out HR.out HC.out (Or.inl (by assumption));exact ⟨k+1,by omega,by go_num,by rw [hd.1],by rw [hd.2]⟩
    case measure=>simp [intOf];omega
   ·go_round
    case rel =>
     have hd:=zKX a b q r c k hlt ha0 ha hb0 hb HQ.out HR.out HC.out (Or.inr (by assumption));exact ⟨k+1,by omega,by go_num,by rw [hd.1],by rw [hd.2]⟩
    case measure=>simp [intOf];omega
   ·go_round
    case rel =>
     have hd:=div_no a b q r c k hlt ha0 ha hb0 hb HQ.out HR.out HC.out (by assumption) (by assumption);exact ⟨k+1,by omega,by go_num,by rw [hd.1],by rw [hd.2]⟩
    case measure=>simp [intOf];omega
  ·obtain rfl:k=64:=by omega
   go_wp2;go_ret2;exact ⟨zHJ (by simp) (by simp),rfl⟩
theorem mul64_any (a b:Int) (w:World) (ha0:0≤a) (ha:a<18446744073709551616) (hb0:0≤b) (hb:b<18446744073709551616) :
  Calls prog 214 #[.int .u64 a,.int .u64 b] w fun e w'=>e=.returned (.tuple #[.int .u64 (a*b/18446744073709551616),.int .u64 (a*b%18446744073709551616)])∧w=w':=by
 go_enter func214,ntmps214;go_wp2;go_ret2;exact ⟨zHJ (mulhi a b ha0 ha hb0 hb) (IntKind.wrap_u64 _),rfl⟩
theorem or32 (x y:Int) (hy0:0≤y) (hy:y<4294967296):bits .or .u64 (IntKind.u64.wrap (x*4294967296)) y=x*4294967296%18446744073709551616+y:=by
 rw [IntKind.wrap_u64];obtain ⟨A,hA⟩:=zze (show 0≤x*4294967296%18446744073709551616 by omega);obtain ⟨C,rfl⟩:=zze hy0;have h2:A%4294967296=0:=by omega
 rw [hA,u64_or_nat A C (by omega) (by omega),nat_join 32 A C (by simpa using h2) (by simp;omega),Int.natCast_add]
theorem zDo (a b:Int) (w:World) (ha0:0≤a) (ha:a<18446744073709551616) (hb0:0≤b) (hb:b<18446744073709551616) :
  Calls prog 138 #[.int .u64 a,.int .u64 b] w fun e w'=>e=.returned (.tuple #[.int .u64 (a*b/18446744073709551616),.int .u64 (a*b%18446744073709551616)])∧w=w':=by
 go_enter func138,ntmps138;go_wp2;go_ret2;have hp:=zFz a b;have b1:=zCx (a/4294967296) (b/4294967296) (by omega) (by omega) (by omega) (by omega);have b2:=zCx (a/4294967296) (b%4294967296) (by omega) (by omega) (by omega) (by omega);have b3:=zCx (a%4294967296) (b/4294967296) (by omega) (by omega) (by omega) (by omega);have b4:=zCx (a%4294967296) (b%4294967296) (by omega) (by omega) (by omega) (by omega);refine ⟨zHJ ?_ ?_,rfl⟩
 ·rw [zEt a ha0 ha,zEt b hb0 hb,hp];generalize a/4294967296*(b/4294967296)=s at *;generalize a/4294967296*(b%4294967296)=q at *;generalize a%4294967296*(b/4294967296)=r at *;generalize a%4294967296*(b%4294967296)=p at *;have e1:IntKind.u64.wrap s=s:=zzu _ (by omega);have e2:IntKind.u64.wrap q=q:=zzu _ (by omega);have e3:IntKind.u64.wrap r=r:=zzu _ (by omega);have e4:IntKind.u64.wrap p=p:=zzu _ (by omega);rw [e1,e2,e3,e4,zEt q (by omega) (by omega),zEt r (by omega) (by omega)];simp only [IntKind.wrap_u64];omega
 ·rw [zEt a ha0 ha,zEt b hb0 hb,hp];generalize a/4294967296*(b/4294967296)=s at *;generalize a/4294967296*(b%4294967296)=q at *;generalize a%4294967296*(b/4294967296)=r at *;generalize a%4294967296*(b%4294967296)=p at *;have e2:IntKind.u64.wrap q=q:=zzu _ (by omega);have e3:IntKind.u64.wrap r=r:=zzu _ (by omega);have e4:IntKind.u64.wrap p=p:=zzu _ (by omega);rw [e2,e3,e4,zEt q (by omega) (by omega),zEt r (by omega) (by omega),zEt p (by omega) (by omega)];have e5:IntKind.u64.wrap (p/4294967296+q%4294967296)=p/4294967296+q%4294967296:=zzu _ (by omega);rw [e5];have e6:IntKind.u64.wrap (p/4294967296+q%4294967296+r%4294967296)=p/4294967296+q%4294967296+r%4294967296:=zzu _ (by omega);rw [e6,or32 _ _ (by omega) (by omega)];omega
theorem zIC (a b:Int) (w:World) (ha0:0≤a) (ha:a<18446744073709551616) (hb0:0≤b) (hb:b<18446744073709551616) :
  Calls prog 183 #[.int .u64 a,.int .u64 b] w fun e w'=>e=.returned (.int .u64 (a*b/18446744073709551616))∧w=w':=by
 go_enter func183,ntmps183;go_wp2_with fail;refine (mul64_any a b _ ha0 ha hb0 hb).mono ?_;rintro e w' ⟨rfl,rfl⟩;go_wp2;go_ret;exact ⟨rfl,rfl⟩
theorem refMulhu_any (a b:Int) (w:World) (ha0:0≤a) (ha:a<18446744073709551616) (hb0:0≤b) (hb:b<18446744073709551616) :
  Calls prog 141 #[.int .u64 a,.int .u64 b] w fun e w'=>e=.returned (.int .u64 (a*b/18446744073709551616))∧w=w':=by
 go_enter func141,ntmps141;go_wp2_with fail;refine (zDo a b _ ha0 ha hb0 hb).mono ?_;rintro e w' ⟨rfl,rfl⟩;go_wp2;go_ret;exact ⟨rfl,rfl⟩
theorem zGw (a b:Int) (w:World) (ha0:0≤a) (ha:a<18446744073709551616) :
  Calls prog 213 #[.int .u64 a,.int .u64 b] w fun e w'=>e=.returned (.int .u64 (zEd a b))∧w=w':=by
 have hn:=isNeg_wrap a ha0 ha;unfold zEd;cases hi:zAs a
 ·have hw:¬ wrap64 a<0:=fun h=>by rw [hn.2 h] at hi;cases hi
  clear hn hi;go_enter func213,ntmps213;go_wp2;go_ret;exact ⟨rfl,rfl⟩
 ·have hw:wrap64 a<0:=hn.1 hi;clear hn hi;go_enter func213,ntmps213;go_wp2;go_ret;exact ⟨rfl,rfl⟩
theorem zGr (a b:Int) (w:World) (ha0:0≤a) (ha:a<18446744073709551616) (hb0:0≤b) (hb:b<18446744073709551616) :
  Calls prog 182 #[.int .u64 a,.int .u64 b] w fun e w'=>e=.returned (.int .u64 (zBj a b))∧w=w':=by
 have fin:=hid (mulhsu_word a b ha0 ha);have hm:=zKF a b ha0 ha hb0 hb;go_enter func182,ntmps182;go_wp2_with fail;refine (zIC a b _ ha0 ha hb0 hb).mono ?_;rintro e w' ⟨rfl,rfl⟩;generalize a*b/18446744073709551616=h at *;go_wp2_with fail;refine (zGw a b _ ha0 ha).mono ?_;rintro e w' ⟨rfl,rfl⟩;go_wp2;go_ret;exact ⟨zm fin.out,rfl⟩
theorem mulhsu_bd (a b:Int):0≤zBj a b∧zBj a b<18446744073709551616:=by unfold zBj;omega
theorem mulh_bd (a b:Int):0≤zGW a b∧zGW a b<18446744073709551616:=by unfold zGW;omega
theorem zJE (a b:Int) (ha0:0≤a) (ha:a<18446744073709551616) (hb0:0≤b) (hb:b<18446744073709551616):0≤a*b/18446744073709551616∧a*b/18446744073709551616<18446744073709551616:=by
 have:=zKF a b ha0 ha hb0 hb;omega
theorem mulh_any (a b:Int) (w:World) (ha0:0≤a) (ha:a<18446744073709551616) (hb0:0≤b) (hb:b<18446744073709551616) :
  Calls prog 181 #[.int .u64 a,.int .u64 b] w fun e w'=>e=.returned (.int .u64 (zGW a b))∧w=w':=by
 have fin:=hid (mulh_word a b ha0 ha hb0 hb);go_enter func181,ntmps181;go_wp2_with fail;refine (zGr a b _ ha0 ha hb0 hb).mono ?_;rintro e w' ⟨rfl,rfl⟩;go_wp2_with fail;refine (zGw b a _ hb0 hb).mono ?_;rintro e w' ⟨rfl,rfl⟩;go_wp2;go_ret;exact ⟨zm fin.out,rfl⟩
theorem zCj (a:Int) (w:World) (ha0:0≤a) (ha:a<18446744073709551616) :
  Calls prog 166 #[.int .u64 a] w fun e w'=>e=.returned (.int .u64 (zAf a))∧w=w':=by
 have hn:=zBh a ha0 ha;unfold zAf;cases hi:zAs a
 ·clear hn;have HI:=hid hi;clear hi;go_enter func166,ntmps166;go_wp2_with fail;refine (zx _ _ ha0).mono ?_;rintro e w' ⟨rfl,rfl⟩;rw [HI.out];go_wp2;go_ret;exact ⟨rfl,rfl⟩
 ·have hw:=hn.1 hi;clear hn;rw [if_pos rfl];have HI:=hid hi;clear hi;go_enter func166,ntmps166;go_wp2_with fail;refine (zx _ _ ha0).mono ?_;rintro e w' ⟨rfl,rfl⟩;rw [HI.out];go_wp2;go_ret;exact ⟨zm (by rw [IntKind.wrap_u64];omega),rfl⟩
theorem not_word (h:Int) (h0:0≤h) (h1:h<18446744073709551616):bits .xor .u64 18446744073709551615 h=18446744073709551615 - h:=by
 obtain ⟨X,rfl⟩:=zze h0;have e:=u64_xor_nat 18446744073709551615 X (by decide) (by omega);have e2:18446744073709551615 ^^^ X=18446744073709551615 - X:=by
  have h2:X<2^64:=by omega
  have e3:=BitVec.toNat_not (x:=BitVec.ofNat 64 X);rw [← BitVec.allOnes_xor,BitVec.toNat_xor,BitVec.toNat_allOnes,BitVec.toNat_ofNat,Nat.mod_eq_of_lt h2] at e3;omega
 rw [e2] at e;have e4:(18446744073709551615:Int)=((18446744073709551615:Nat):Int):=rfl;rw [e4,e];omega
theorem zHh (a b:Int) (m:Bool) (w:World) (ha0:0≤a) (ha:a<18446744073709551616) (hb0:0≤b) (hb:b<18446744073709551616) :
  Calls prog 165 #[.int .u64 a,.int .u64 b,.bool m] w fun e w'=>e=.returned (.int .u64 (zEi a b m))∧w=w':=by
 have hm:=zJE a b ha0 ha hb0 hb;have hl:0≤a*b%18446744073709551616:=by omega
 have K:∀ w,Calls prog 138 #[.int .u64 a,.int .u64 b] w fun e w'=>e=.returned (.tuple #[.int .u64 (a*b/18446744073709551616),.int .u64 (a*b%18446744073709551616)])∧w=w':=fun w=>zDo a b w ha0 ha hb0 hb
 unfold zEi;generalize a*b/18446744073709551616=hh at *;generalize a*b%18446744073709551616=l at *;have KK:=hid K;clear K;cases m
 ·go_enter func165,ntmps165;go_wp2_with fail;refine (KK.out _).mono ?_;rintro e w' ⟨rfl,rfl⟩;go_wp2;go_ret;exact ⟨rfl,rfl⟩
 ·by_cases hz:l=0
  ·subst hz;rw [if_pos rfl,if_pos rfl];go_enter func165,ntmps165;go_wp2_with fail;refine (KK.out _).mono ?_;rintro e w' ⟨rfl,rfl⟩;go_wp2;go_ret;exact ⟨zm (by rw [IntKind.wrap_u64]),rfl⟩
  ·have hzb:(l==0)=false:=beq_eq_false_iff_ne.2 hz;rw [if_pos rfl,if_neg hz];clear hz;go_enter func165,ntmps165;go_wp2_with fail;refine (KK.out _).mono ?_;rintro e w' ⟨rfl,rfl⟩;go_wp2;go_ret;exact ⟨zm (by rw [show IntKind.u64.max=18446744073709551615 from rfl,not_word hh hm.1 hm.2];omega),rfl⟩
theorem zDj (a:Int) (ha0:0≤a) (ha:a<18446744073709551616):0≤zAf a∧zAf a<18446744073709551616:=by
 have:=zAr a ha0 ha;exact ⟨this.1,this.2.1⟩
theorem refMulhsu_any (a b:Int) (w:World) (ha0:0≤a) (ha:a<18446744073709551616) (hb0:0≤b) (hb:b<18446744073709551616) :
  Calls prog 140 #[.int .u64 a,.int .u64 b] w fun e w'=>e=.returned (.int .u64 (zBj a b))∧w=w':=by
 have hs:=zDj a ha0 ha;rw [← mulhsu_ref a b ha0 ha hb0 hb];go_enter func140,ntmps140;go_wp2_with fail;refine (zCj a _ ha0 ha).mono ?_;rintro e w' ⟨rfl,rfl⟩;go_wp2_with fail;refine (zx a _ ha0).mono ?_;rintro e w' ⟨rfl,rfl⟩;go_wp2_with fail;refine (zHh _ _ _ _ hs.1 hs.2 hb0 hb).mono ?_;rintro e w' ⟨rfl,rfl⟩;go_wp2;go_ret;exact ⟨rfl,rfl⟩
theorem refMulh_any (a b:Int) (w:World) (ha0:0≤a) (ha:a<18446744073709551616) (hb0:0≤b) (hb:b<18446744073709551616) :
  Calls prog 139 #[.int .u64 a,.int .u64 b] w fun e w'=>e=.returned (.int .u64 (zGW a b))∧w=w':=by
 have hs:=zDj a ha0 ha;have ht:=zDj b hb0 hb;rw [← mulh_ref a b ha0 ha hb0 hb];go_enter func139,ntmps139;go_wp2_with fail;refine (zCj a _ ha0 ha).mono ?_;rintro e w' ⟨rfl,rfl⟩;go_wp2_with fail;refine (zCj b _ hb0 hb).mono ?_;rintro e w' ⟨rfl,rfl⟩;go_wp2_with fail;refine (zx a _ ha0).mono ?_;rintro e w' ⟨rfl,rfl⟩;go_wp2_with fail;refine (zx b _ hb0).mono ?_;rintro e w' ⟨rfl,rfl⟩;go_wp2_with fail;refine (zHh _ _ _ _ hs.1 hs.2 ht.1 ht.2).mono ?_;rintro e w' ⟨rfl,rfl⟩;go_wp2;go_ret;exact ⟨rfl,rfl⟩
def zHb (a b:Int):Int:=if b=0 then 18446744073709551615 else a/b
def zHK (a b:Int):Int:=if b=0 then a else a%b
def divI (a b:Int):Int:=if b=0 then 18446744073709551615 else IntKind.u64.wrap (wrap64 ((wrap64 a).tdiv (wrap64 b)))
def remI (a b:Int):Int:=if b=0 then a else IntKind.u64.wrap ((wrap64 a).tmod (wrap64 b))
theorem zJa (b:Int) (hb0:0≤b) (hb:b<18446744073709551616) (h:¬ b=0):¬ wrap64 b=0:=by unfold wrap64;omega
theorem zJP (a b:Int) (w:World) (ha0:0≤a) (ha:a<18446744073709551616) (hb0:0≤b) :
  Calls prog 185 #[.int .u64 a,.int .u64 b] w fun e w'=>e=.returned (.int .u64 (zHb a b))∧w=w':=by
 unfold zHb;by_cases h:b=0
 ·subst h;go_enter func185,ntmps185;go_wp2;go_ret;exact ⟨rfl,rfl⟩
 ·have h1:1≤b:=by omega
  rw [if_neg h];clear h;go_enter func185,ntmps185;go_wp2;go_ret;exact ⟨rfl,rfl⟩
theorem zIs (a b:Int) (w:World) (ha0:0≤a) (ha:a<18446744073709551616) (hb0:0≤b) :
  Calls prog 187 #[.int .u64 a,.int .u64 b] w fun e w'=>e=.returned (.int .u64 (zHK a b))∧w=w':=by
 unfold zHK;by_cases h:b=0
 ·subst h;go_enter func187,ntmps187;go_wp2;go_ret;exact ⟨rfl,rfl⟩
 ·have h1:1≤b:=by omega
  rw [if_neg h];clear h;go_enter func187,ntmps187;go_wp2;go_ret;exact ⟨rfl,rfl⟩
theorem zKY (a b:Int) (w:World) (hb0:0≤b) (hb:b<18446744073709551616) :
  Calls prog 184 #[.int .u64 a,.int .u64 b] w fun e w'=>e=.returned (.int .u64 (divI a b))∧w=w':=by
 unfold divI;by_cases h:b=0
 ·subst h;go_enter func184,ntmps184;go_wp2;go_ret;exact ⟨rfl,rfl⟩
 ·have h1:1≤b:=by omega
  have h2:=zJa b hb0 hb h;rw [if_neg h];clear h;go_enter func184,ntmps184;go_wp2;go_ret;exact ⟨rfl,rfl⟩
theorem zJp (a b:Int) (w:World) (hb0:0≤b) (hb:b<18446744073709551616) :
  Calls prog 186 #[.int .u64 a,.int .u64 b] w fun e w'=>e=.returned (.int .u64 (remI a b))∧w=w':=by
 unfold remI;by_cases h:b=0
 ·subst h;go_enter func186,ntmps186;go_wp2;go_ret;exact ⟨rfl,rfl⟩
 ·have h1:1≤b:=by omega
  have h2:=zJa b hb0 hb h;rw [if_neg h];clear h;go_enter func186,ntmps186;go_wp2;go_ret;exact ⟨rfl,rfl⟩
theorem zFr (a b:Int) (w:World) (ha0:0≤a) (ha:a<18446744073709551616) (hb0:0≤b) (hb:b<18446744073709551616) :
  Calls prog 143 #[.int .u64 a,.int .u64 b] w fun e w'=>e=.returned (.int .u64 (zHb a b))∧w=w':=by
 unfold zHb;by_cases h:b=0
 ·subst h;go_enter func143,ntmps143;go_wp2;go_ret;exact ⟨rfl,rfl⟩
 ·have h1:1≤b:=by omega
  rw [if_neg h];clear h;go_enter func143,ntmps143;go_wp2_with fail;refine (zDT a b _ ha0 ha (by omega) hb).mono ?_;rintro e w' ⟨rfl,rfl⟩;go_wp2;go_ret;exact ⟨rfl,rfl⟩
theorem zFp (a b:Int) (w:World) (ha0:0≤a) (ha:a<18446744073709551616) (hb0:0≤b) (hb:b<18446744073709551616) :
  Calls prog 145 #[.int .u64 a,.int .u64 b] w fun e w'=>e=.returned (.int .u64 (zHK a b))∧w=w':=by
 unfold zHK;by_cases h:b=0
 ·subst h;go_enter func145,ntmps145;go_wp2;go_ret;exact ⟨rfl,rfl⟩
 ·have h1:1≤b:=by omega
  rw [if_neg h];clear h;go_enter func145,ntmps145;go_wp2_with fail;refine (zDT a b _ ha0 ha (by omega) hb).mono ?_;rintro e w' ⟨rfl,rfl⟩;go_wp2;go_ret;exact ⟨rfl,rfl⟩
theorem zEy (b:Int) (hb0:0≤b) (hb:b<18446744073709551616) (h:1≤b):1≤zAf b:=by
 unfold zAf;split<;>omega
theorem div_ref (a b:Int) (ha0:0≤a) (ha:a<18446744073709551616) (hb0:0≤b) (hb:b<18446744073709551616) (h1:1≤b) :
  IntKind.u64.wrap (wrap64 ((wrap64 a).tdiv (wrap64 b)))=if zAs a != zAs b then IntKind.u64.wrap (-(zAf a/zAf b)) else zAf a/zAf b:=by
 have hw:=zAr a ha0 ha;have hv:=zAr b hb0 hb;have hp:=zEy b hb0 hb h1;have hq:=zEn (zAf a) (zAf b) hw.1 (by omega);rw [hw.2.2.1,hv.2.2.1];have e:(zAf a).tdiv (zAf b)=zAf a/zAf b:=Int.tdiv_eq_ediv_of_nonneg hw.1;have h2:zAf a≤9223372036854775808:=by
  have hi:=zBh a ha0 ha;unfold zAf;split
  ·rename_i h;have:=hi.1 h;omega
  ·rename_i h;rw [hi] at h;omega
 cases zAs a<;>cases zAs b<;>simp [Int.neg_tdiv,Int.tdiv_neg,e,IntKind.wrap_u64]<;>unfold wrap64<;>omega
theorem rem_ref (a b:Int) (ha0:0≤a) (ha:a<18446744073709551616) (hb0:0≤b) (hb:b<18446744073709551616) (h1:1≤b) :
  IntKind.u64.wrap ((wrap64 a).tmod (wrap64 b))=if zAs a then IntKind.u64.wrap (-(zAf a%zAf b)) else zAf a%zAf b:=by
 have hw:=zAr a ha0 ha;have hv:=zAr b hb0 hb;have hp:=zEy b hb0 hb h1;have hr0:=Int.emod_nonneg (zAf a) (show zAf b≠0 by omega);have hr1:=Int.emod_lt_of_pos (zAf a) (show 0<zAf b by omega);rw [hw.2.2.1,hv.2.2.1];have e:(zAf a).tmod (zAf b)=zAf a%zAf b:=Int.tmod_eq_emod_of_nonneg hw.1;cases zAs a<;>cases zAs b<;>simp [Int.neg_tmod,Int.tmod_neg,e,IntKind.wrap_u64]<;>omega
theorem zGm (a b:Int) (w:World) (ha0:0≤a) (ha:a<18446744073709551616) (hb0:0≤b) (hb:b<18446744073709551616) :
  Calls prog 142 #[.int .u64 a,.int .u64 b] w fun e w'=>e=.returned (.int .u64 (divI a b))∧w=w':=by
 unfold divI;by_cases h:b=0
 ·subst h;go_enter func142,ntmps142;go_wp2;go_ret;exact ⟨rfl,rfl⟩
 ·have h1:1≤b:=by omega
  rw [if_neg h,div_ref a b ha0 ha hb0 hb h1];clear h;have hs:=zDj a ha0 ha;have ht:=zDj b hb0 hb;have hp:=zEy b hb0 hb h1;cases hna:zAs a<;>cases hnb:zAs b
  all_goals
   first|rw [if_pos (by decide)]|rw [if_neg (by decide)]
   have HA:=hid hna;clear hna;have HB:=hid hnb;clear hnb;go_enter func142,ntmps142;go_wp2_with fail;refine (zCj a _ ha0 ha).mono ?_;rintro e w' ⟨rfl,rfl⟩;go_wp2_with fail;refine (zCj b _ hb0 hb).mono ?_;rintro e w' ⟨rfl,rfl⟩;go_wp2_with fail;refine (zDT _ _ _ hs.1 hs.2 (by omega) ht.2).mono ?_;rintro e w' ⟨rfl,rfl⟩;go_wp2_with fail;refine (zx a _ ha0).mono ?_;rintro e w' ⟨rfl,rfl⟩;rw [HA.out];go_wp2_with fail;refine (zx b _ hb0).mono ?_;rintro e w' ⟨rfl,rfl⟩;rw [HB.out];go_wp2;go_ret;exact ⟨rfl,rfl⟩
theorem zGl (a b:Int) (w:World) (ha0:0≤a) (ha:a<18446744073709551616) (hb0:0≤b) (hb:b<18446744073709551616) :
  Calls prog 144 #[.int .u64 a,.int .u64 b] w fun e w'=>e=.returned (.int .u64 (remI a b))∧w=w':=by
 unfold remI;by_cases h:b=0
 ·subst h;go_enter func144,ntmps144;go_wp2;go_ret;exact ⟨rfl,rfl⟩
 ·have h1:1≤b:=by omega
  rw [if_neg h,rem_ref a b ha0 ha hb0 hb h1];clear h;have hs:=zDj a ha0 ha;have ht:=zDj b hb0 hb;have hp:=zEy b hb0 hb h1;cases hn:zAs a;all_goals
   have HN:=hid hn;clear hn;go_enter func144,ntmps144;go_wp2_with fail;refine (zCj a _ ha0 ha).mono ?_;rintro e w' ⟨rfl,rfl⟩;go_wp2_with fail;refine (zCj b _ hb0 hb).mono ?_;rintro e w' ⟨rfl,rfl⟩;go_wp2_with fail;refine (zDT _ _ _ hs.1 hs.2 (by omega) ht.2).mono ?_;rintro e w' ⟨rfl,rfl⟩;go_wp2_with fail;refine (zx a _ ha0).mono ?_;rintro e w' ⟨rfl,rfl⟩;rw [HN.out];go_wp2;go_ret;exact ⟨rfl,rfl⟩
theorem and63 (x:Int) (h0:0≤x) (h:x<18446744073709551616):∃ k:Nat,k<64∧bits .and .u64 x 63=(k:Int)∧x%64=k:=by
 obtain ⟨X,rfl⟩:=zze h0;have e:X &&& 63=X%64:=Nat.and_two_pow_sub_one_eq_mod X 6
 have:=u64_and_nat X 63 (by omega) (by decide)
 rw [e] at this;exact ⟨X%64,by omega,this,by omega⟩
theorem and31 (x:Int) (h0:0≤x) (h:x<4294967296):∃ k:Nat,k<32∧bits .and .u32 x 31=(k:Int)∧x%32=k:=by
 obtain ⟨X,rfl⟩:=zze h0;have e:X &&& 31=X%32:=Nat.and_two_pow_sub_one_eq_mod X 5
 have:=u32_and_nat X 31 (by omega) (by decide)
 rw [e] at this;exact ⟨X%32,by omega,this,by omega⟩
def oneI (c:Bool):Int:=if c then 1 else 0
def zJv (op a b:Int):Int:=
 if op=22∨op=31 then IntKind.u64.wrap (a+b)
 else if op=32 then IntKind.u64.wrap (a - b)
 else if op=25∨op=36 then bits .xor .u64 a b
 else if op=26∨op=39 then bits .or .u64 a b
 else if op=27∨op=40 then bits .and .u64 a b
 else if op=23∨op=34 then oneI (decide (wrap64 a<wrap64 b))
 else if op=24∨op=35 then oneI (decide (a<b))
 else b
def zIq (op a b:Int):Int:=
 if op=28∨op=33 then IntKind.u64.wrap (a*2^(b%64).toNat)
 else if op=29∨op=37 then a/2^(b%64).toNat
 else IntKind.u64.wrap (wrap64 a/2^(b%64).toNat)
def zHO (op a b:Int):Int:=
 if op=50 then IntKind.u64.wrap (a*b) else if op=51 then zGW a b else if op=52 then zBj a b else a*b/18446744073709551616
def zFt (op a b:Int):Int:=
 if op=54 then divI a b else if op=55 then zHb a b else if op=56 then remI a b else zHK a b
def npV (op a b:Int):Int:=
 if op=41∨op=45 then (a+b)%4294967296
 else if op=46 then (a - b)%4294967296
 else if op=58 then a*b%4294967296
 else if op=42∨op=47 then a*2^(b%32).toNat%4294967296
 else if op=43∨op=48 then a/2^(b%32).toNat
 else wrap32 a/2^(b%32).toNat%4294967296
def nqV (op a b:Int):Int:=
 if op=59 then divI (zV a 32) (zV b 32)%4294967296
 else if op=61 then remI (zV a 32) (zV b 32)%4294967296
 else if op=60 then zHb a b%4294967296
 else zHK a b%4294967296
def zBo:List Int:=[1,22,31,32,25,36,26,39,27,40,23,34,24,35]
def zBn:List Int:=[28,33,29,37,30,38]
def zBA:List Int:=[50,51,52,53]
def zAb:List Int:=[54,55,56,57]
def zGV:List Int:=[41,45,46,58,42,47,43,48,44,49]
def zHR:List Int:=[59,61,60,62]
theorem oneIf_any (c:Bool) (w:World):Calls prog 180 #[.bool c] w fun e w'=>e=.returned (.int .u64 (oneI c))∧w=w':=by
 cases c
 ·go_enter func180,ntmps180;go_wp2;go_ret;exact ⟨rfl,rfl⟩
 ·go_enter func180,ntmps180;go_wp2;go_ret;exact ⟨rfl,rfl⟩
theorem plain_yes (op a b:Int) (w:World) (hop:op∈zBo) :
  Calls prog 160 #[.int .i64 op,.int .u64 a,.int .u64 b] w fun e w'=>e=.returned (.tuple #[.int .u64 (zJv op a b),.bool true])∧w=w':=by
 simp only [zBo,List.mem_cons,zzm,or_false] at hop;rcases hop with rfl|rfl|rfl|rfl|rfl|rfl|rfl|rfl|rfl|rfl|rfl|rfl|rfl|rfl
 any_goals
  go_enter func160,ntmps160;go_wp2;go_ret2;exact ⟨rfl,rfl⟩
 all_goals
  go_enter func160,ntmps160;go_wp2_with fail;refine (oneIf_any _ _).mono ?_;rintro e w' ⟨rfl,rfl⟩;go_wp2;go_ret2;exact ⟨rfl,rfl⟩
theorem zIw (op a b:Int) (w:World) (hop:op ∉ zBo) :
  Calls prog 160 #[.int .i64 op,.int .u64 a,.int .u64 b] w fun e w'=>e=.returned (.tuple #[.int .u64 0,.bool false])∧w=w':=by
 simp only [zBo,List.mem_cons,zzm,or_false,not_or] at hop;obtain ⟨h1,h2,h3,h4,h5,h6,h7,h8,h9,h10,h11,h12,h13,h14⟩:=hop;replace h1:=nin h1;replace h2:=nin h2;replace h3:=nin h3;replace h4:=nin h4;replace h5:=nin h5;replace h6:=nin h6;replace h7:=nin h7;replace h8:=nin h8;replace h9:=nin h9;replace h10:=nin h10;replace h11:=nin h11;replace h12:=nin h12;replace h13:=nin h13;replace h14:=nin h14;go_enter func160,ntmps160;go_wp2;go_ret2;exact ⟨rfl,rfl⟩
theorem shift_yes (op a b:Int) (w:World) (hop:op∈zBn) (ha0:0≤a) (ha:a<18446744073709551616) (hb0:0≤b) (hb:b<18446744073709551616) :
  Calls prog 161 #[.int .i64 op,.int .u64 a,.int .u64 b] w fun e w'=>e=.returned (.tuple #[.int .u64 (zIq op a b),.bool true])∧w=w':=by
 obtain ⟨k,hk,hm,hq⟩:=and63 b hb0 hb;have HQ:=hid (show (b%64).toNat=k by omega);clear hq;simp only [zBn,List.mem_cons,zzm,or_false] at hop;rcases hop with rfl|rfl|rfl|rfl|rfl|rfl;all_goals
  go_enter func161,ntmps161;go_wp2;go_ret2;exact ⟨zAJ (by unfold zIq;rw [HQ.out];rfl),rfl⟩
theorem zIp (op a b:Int) (w:World) (hop:op ∉ zBn) :
  Calls prog 161 #[.int .i64 op,.int .u64 a,.int .u64 b] w fun e w'=>e=.returned (.tuple #[.int .u64 0,.bool false])∧w=w':=by
 simp only [zBn,List.mem_cons,zzm,or_false,not_or] at hop;obtain ⟨h1,h2,h3,h4,h5,h6⟩:=hop;replace h1:=nin h1;replace h2:=nin h2;replace h3:=nin h3;replace h4:=nin h4;replace h5:=nin h5;replace h6:=nin h6;go_enter func161,ntmps161;go_wp2;go_ret2;exact ⟨rfl,rfl⟩
theorem product_yes (op a b:Int) (w:World) (hop:op∈zBA) (ha0:0≤a) (ha:a<18446744073709551616) (hb0:0≤b) (hb:b<18446744073709551616) :
  Calls prog 162 #[.int .i64 op,.int .u64 a,.int .u64 b] w fun e w'=>e=.returned (.tuple #[.int .u64 (zHO op a b),.bool true])∧w=w':=by
 simp only [zBA,List.mem_cons,zzm,or_false] at hop;rcases hop with rfl|rfl|rfl|rfl
 ·go_enter func162,ntmps162;go_wp2;go_ret2;exact ⟨rfl,rfl⟩
 ·go_enter func162,ntmps162;go_wp2_with fail;refine (mulh_any _ _ _ ha0 ha hb0 hb).mono ?_;rintro e w' ⟨rfl,rfl⟩;go_wp2;go_ret2;exact ⟨rfl,rfl⟩
 ·go_enter func162,ntmps162;go_wp2_with fail;refine (zGr _ _ _ ha0 ha hb0 hb).mono ?_;rintro e w' ⟨rfl,rfl⟩;go_wp2;go_ret2;exact ⟨rfl,rfl⟩
 ·go_enter func162,ntmps162;go_wp2_with fail;refine (zIC _ _ _ ha0 ha hb0 hb).mono ?_;rintro e w' ⟨rfl,rfl⟩;go_wp2;go_ret2;exact ⟨rfl,rfl⟩
theorem zGn (op a b:Int) (w:World) (hop:op ∉ zBA) :
  Calls prog 162 #[.int .i64 op,.int .u64 a,.int .u64 b] w fun e w'=>e=.returned (.tuple #[.int .u64 0,.bool false])∧w=w':=by
 simp only [zBA,List.mem_cons,zzm,or_false,not_or] at hop;obtain ⟨h1,h2,h3,h4⟩:=hop;replace h1:=nin h1;replace h2:=nin h2;replace h3:=nin h3;replace h4:=nin h4;go_enter func162,ntmps162;go_wp2;go_ret2;exact ⟨rfl,rfl⟩
theorem quotient_yes (op a b:Int) (w:World) (hop:op∈zAb) (ha0:0≤a) (ha:a<18446744073709551616) (hb0:0≤b) (hb:b<18446744073709551616) :
  Calls prog 163 #[.int .i64 op,.int .u64 a,.int .u64 b] w fun e w'=>e=.returned (.tuple #[.int .u64 (zFt op a b),.bool true])∧w=w':=by
 simp only [zAb,List.mem_cons,zzm,or_false] at hop;rcases hop with rfl|rfl|rfl|rfl
 ·go_enter func163,ntmps163;go_wp2_with fail;refine (zKY _ _ _ hb0 hb).mono ?_;rintro e w' ⟨rfl,rfl⟩;go_wp2;go_ret2;exact ⟨rfl,rfl⟩
 ·go_enter func163,ntmps163;go_wp2_with fail;refine (zJP _ _ _ ha0 ha hb0).mono ?_;rintro e w' ⟨rfl,rfl⟩;go_wp2;go_ret2;exact ⟨rfl,rfl⟩
 ·go_enter func163,ntmps163;go_wp2_with fail;refine (zJp _ _ _ hb0 hb).mono ?_;rintro e w' ⟨rfl,rfl⟩;go_wp2;go_ret2;exact ⟨rfl,rfl⟩
 ·go_enter func163,ntmps163;go_wp2_with fail;refine (zIs _ _ _ ha0 ha hb0).mono ?_;rintro e w' ⟨rfl,rfl⟩;go_wp2;go_ret2;exact ⟨rfl,rfl⟩
theorem zFs (op a b:Int) (w:World) (hop:op ∉ zAb) :
  Calls prog 163 #[.int .i64 op,.int .u64 a,.int .u64 b] w fun e w'=>e=.returned (.tuple #[.int .u64 0,.bool false])∧w=w':=by
 simp only [zAb,List.mem_cons,zzm,or_false,not_or] at hop;obtain ⟨h1,h2,h3,h4⟩:=hop;replace h1:=nin h1;replace h2:=nin h2;replace h3:=nin h3;replace h4:=nin h4;go_enter func163,ntmps163;go_wp2;go_ret2;exact ⟨rfl,rfl⟩
theorem np_yes (op a b:Int) (w:World) (hop:op∈zGV) (ha0:0≤a) (ha:a<4294967296) (hb0:0≤b) (hb:b<4294967296) :
  Calls prog 188 #[.int .i64 op,.int .u32 a,.int .u32 b] w fun e w'=>e=.returned (.tuple #[.int .u32 (npV op a b),.bool true])∧w=w':=by
 obtain ⟨k,hk,hm,hq⟩:=and31 b hb0 hb;have HQ:=hid (show (b%32).toNat=k by omega);clear hq;simp only [zGV,List.mem_cons,zzm,or_false] at hop;rcases hop with rfl|rfl|rfl|rfl|rfl|rfl|rfl|rfl|rfl|rfl;all_goals
  go_enter func188,ntmps188;go_wp2;go_ret2;exact ⟨zAJ (by unfold npV;rw [HQ.out];rfl),rfl⟩
theorem np_no (op a b:Int) (w:World) (hop:op ∉ zGV) :
  Calls prog 188 #[.int .i64 op,.int .u32 a,.int .u32 b] w fun e w'=>e=.returned (.tuple #[.int .u32 0,.bool false])∧w=w':=by
 simp only [zGV,List.mem_cons,zzm,or_false,not_or] at hop;obtain ⟨h1,h2,h3,h4,h5,h6,h7,h8,h9,h10⟩:=hop;replace h1:=nin h1;replace h2:=nin h2;replace h3:=nin h3;replace h4:=nin h4;replace h5:=nin h5;replace h6:=nin h6;replace h7:=nin h7;replace h8:=nin h8;replace h9:=nin h9;replace h10:=nin h10;go_enter func188,ntmps188;go_wp2;go_ret2;exact ⟨rfl,rfl⟩
theorem zAg (x:Int):0≤zV x 32∧zV x 32<18446744073709551616:=by
 unfold zV;rw [if_pos (by decide)];exact zJc _ _
theorem zAj (x:Int) (w:World) (h0:0≤x) (h:x<4294967296) :
  Calls prog 215 #[.int .u32 x] w fun e w'=>e=.returned (.int .u64 (zV x 32))∧w=w':=by
 go_enter func215,ntmps215;go_wp2_with fail;refine (zCL _ _ _).mono ?_;rintro e w' ⟨rfl,rfl⟩;go_wp2;go_ret;exact ⟨rfl,rfl⟩
theorem nq_yes (op a b:Int) (w:World) (hop:op∈zHR) (ha0:0≤a) (ha:a<4294967296) (hb0:0≤b) (hb:b<4294967296) :
  Calls prog 189 #[.int .i64 op,.int .u32 a,.int .u32 b] w fun e w'=>e=.returned (.tuple #[.int .u32 (nqV op a b),.bool true])∧w=w':=by
 have hs:=zAg b;simp only [zHR,List.mem_cons,zzm,or_false] at hop;rcases hop with rfl|rfl|rfl|rfl
 ·go_enter func189,ntmps189;go_wp2_with fail;refine (zAj _ _ ha0 ha).mono ?_;rintro e w' ⟨rfl,rfl⟩;go_wp2_with fail;refine (zAj _ _ hb0 hb).mono ?_;rintro e w' ⟨rfl,rfl⟩;go_wp2_with fail;refine (zKY _ _ _ hs.1 hs.2).mono ?_;rintro e w' ⟨rfl,rfl⟩;go_wp2;go_ret2;exact ⟨rfl,rfl⟩
 ·go_enter func189,ntmps189;go_wp2_with fail;refine (zAj _ _ ha0 ha).mono ?_;rintro e w' ⟨rfl,rfl⟩;go_wp2_with fail;refine (zAj _ _ hb0 hb).mono ?_;rintro e w' ⟨rfl,rfl⟩;go_wp2_with fail;refine (zJp _ _ _ hs.1 hs.2).mono ?_;rintro e w' ⟨rfl,rfl⟩;go_wp2;go_ret2;exact ⟨rfl,rfl⟩
 ·go_enter func189,ntmps189;go_wp2_with fail;refine (zJP _ _ _ ha0 (by omega) hb0).mono ?_;rintro e w' ⟨rfl,rfl⟩;go_wp2;go_ret2;exact ⟨rfl,rfl⟩
 ·go_enter func189,ntmps189;go_wp2_with fail;refine (zIs _ _ _ ha0 (by omega) hb0).mono ?_;rintro e w' ⟨rfl,rfl⟩;go_wp2;go_ret2;exact ⟨rfl,rfl⟩
theorem nq_no (op a b:Int) (w:World) (hop:op ∉ zHR) :
  Calls prog 189 #[.int .i64 op,.int .u32 a,.int .u32 b] w fun e w'=>e=.returned (.tuple #[.int .u32 0,.bool false])∧w=w':=by
 simp only [zHR,List.mem_cons,zzm,or_false,not_or] at hop;obtain ⟨h1,h2,h3,h4⟩:=hop;replace h1:=nin h1;replace h2:=nin h2;replace h3:=nin h3;replace h4:=nin h4;go_enter func189,ntmps189;go_wp2;go_ret2;exact ⟨rfl,rfl⟩
def zFy (op a b:Int):Int:=if op∈zGV then zV (npV op (a%4294967296) (b%4294967296)) 32 else zV (nqV op (a%4294967296) (b%4294967296)) 32
def zCd:List Int:=zGV++zHR
theorem np_bd (op a b:Int) (ha0:0≤a) (ha:a<4294967296):0≤npV op a b∧npV op a b<4294967296:=by
 have hq:0≤a/2^(b%32).toNat∧a/2^(b%32).toNat≤a:=zEn a _ ha0 (za _);unfold npV
 repeat' split
 all_goals omega
theorem nq_bd (op a b:Int):0≤nqV op a b∧nqV op a b<4294967296:=by
 unfold nqV
 repeat' split
 all_goals omega
theorem narrow_yes (op a b:Int) (w:World) (hop:op∈zCd) (ha0:0≤a) (ha:a<18446744073709551616) (hb0:0≤b) (hb:b<18446744073709551616) :
  Calls prog 164 #[.int .i64 op,.int .u64 a,.int .u64 b] w fun e w'=>e=.returned (.tuple #[.int .u64 (zFy op a b),.bool true])∧w=w':=by
 by_cases h:op∈zGV
 ·unfold zFy;rw [if_pos h];have hbd:=np_bd op (a%4294967296) (b%4294967296) (by omega) (by omega);have c:=fun w=>np_yes op (a%4294967296) (b%4294967296) w h (by omega) (by omega) (by omega) (by omega)
  clear h hop;generalize npV op (a%4294967296) (b%4294967296)=r at *;go_enter func164,ntmps164;go_wp2_with fail;refine (c _).mono ?_;rintro e w' ⟨rfl,rfl⟩;clear c;go_wp2_with fail;refine (zCL _ _ _).mono ?_;rintro e w' ⟨rfl,rfl⟩;go_wp2;go_ret2;exact ⟨rfl,rfl⟩
 ·unfold zFy;rw [if_neg h];have h2:op∈zHR:=by
   rcases List.mem_append.1 hop with k|k
   ·exact absurd k h
   ·exact k
  have hbd:=nq_bd op (a%4294967296) (b%4294967296);have c:=fun w=>np_no op (a%4294967296) (b%4294967296) w h
  have d:=fun w=>nq_yes op (a%4294967296) (b%4294967296) w h2 (by omega) (by omega) (by omega) (by omega)
  clear h hop h2;generalize nqV op (a%4294967296) (b%4294967296)=r at *;go_enter func164,ntmps164;go_wp2_with fail;refine (c _).mono ?_;rintro e w' ⟨rfl,rfl⟩;clear c;go_wp2_with fail;refine (d _).mono ?_;rintro e w' ⟨rfl,rfl⟩;clear d;go_wp2_with fail;refine (zCL _ _ _).mono ?_;rintro e w' ⟨rfl,rfl⟩;go_wp2;go_ret2;exact ⟨rfl,rfl⟩
theorem narrow_no (op a b:Int) (w:World) (hop:op ∉ zCd) :
  Calls prog 164 #[.int .i64 op,.int .u64 a,.int .u64 b] w fun e w'=>e=.returned (.tuple #[.int .u64 0,.bool false])∧w=w':=by
 have h1:op ∉ zGV:=fun h=>hop (List.mem_append.2 (.inl h))
 have h2:op ∉ zHR:=fun h=>hop (List.mem_append.2 (.inr h))
 have c:=fun w=>np_no op (a%4294967296) (b%4294967296) w h1
 have d:=fun w=>nq_no op (a%4294967296) (b%4294967296) w h2
 clear h1 h2 hop;go_enter func164,ntmps164;go_wp2_with fail;refine (c _).mono ?_;rintro e w' ⟨rfl,rfl⟩;clear c;go_wp2_with fail;refine (d _).mono ?_;rintro e w' ⟨rfl,rfl⟩;clear d;go_wp2_with fail;refine (zCL _ _ _).mono ?_;rintro e w' ⟨rfl,rfl⟩;go_wp2;go_ret2;exact ⟨rfl,rfl⟩
def doV (op a b:Int):Int:=
 if op∈zBo then zJv op a b else if op∈zBn then zIq op a b else if op∈zBA then zHO op a b
 else if op∈zAb then zFt op a b else zFy op a b
def zEI:List Int:=zBo++(zBn++(zBA++(zAb++zCd)))
theorem do_yes (op a b:Int) (w:World) (hop:op∈zEI) (ha0:0≤a) (ha:a<18446744073709551616) (hb0:0≤b) (hb:b<18446744073709551616) :
  Calls prog 134 #[.int .i64 op,.int .u64 a,.int .u64 b] w fun e w'=>e=.returned (.tuple #[.int .u64 (doV op a b),.bool true])∧w=w':=by
 unfold doV;by_cases h1:op∈zBo
 ·rw [if_pos h1];have c1:=fun w=>plain_yes op a b w h1
  clear h1 hop;go_enter func134,ntmps134;go_wp2_with fail;refine (c1 _).mono ?_;rintro e w' ⟨rfl,rfl⟩;clear c1;go_wp2;go_ret2;exact ⟨rfl,rfl⟩
 rw [if_neg h1];have c1:=fun w=>zIw op a b w h1
 by_cases h2:op∈zBn
 ·rw [if_pos h2];have c2:=fun w=>shift_yes op a b w h2 ha0 ha hb0 hb
  clear h1 h2 hop;go_enter func134,ntmps134;go_wp2_with fail;refine (c1 _).mono ?_;rintro e w' ⟨rfl,rfl⟩;clear c1;go_wp2_with fail;refine (c2 _).mono ?_;rintro e w' ⟨rfl,rfl⟩;clear c2;go_wp2;go_ret2;exact ⟨rfl,rfl⟩
 rw [if_neg h2];have c2:=fun w=>zIp op a b w h2
 by_cases h3:op∈zBA
 ·rw [if_pos h3];have c3:=fun w=>product_yes op a b w h3 ha0 ha hb0 hb
  clear h1 h2 h3 hop;go_enter func134,ntmps134;go_wp2_with fail;refine (c1 _).mono ?_;rintro e w' ⟨rfl,rfl⟩;clear c1;go_wp2_with fail;refine (c2 _).mono ?_;rintro e w' ⟨rfl,rfl⟩;clear c2;go_wp2_with fail;refine (c3 _).mono ?_;rintro e w' ⟨rfl,rfl⟩;clear c3;go_wp2;go_ret2;exact ⟨rfl,rfl⟩
 rw [if_neg h3];have c3:=fun w=>zGn op a b w h3
 by_cases h4:op∈zAb
 ·rw [if_pos h4];have c4:=fun w=>quotient_yes op a b w h4 ha0 ha hb0 hb
  clear h1 h2 h3 h4 hop;go_enter func134,ntmps134;go_wp2_with fail;refine (c1 _).mono ?_;rintro e w' ⟨rfl,rfl⟩;clear c1;go_wp2_with fail;refine (c2 _).mono ?_;rintro e w' ⟨rfl,rfl⟩;clear c2;go_wp2_with fail;refine (c3 _).mono ?_;rintro e w' ⟨rfl,rfl⟩;clear c3;go_wp2_with fail;refine (c4 _).mono ?_;rintro e w' ⟨rfl,rfl⟩;clear c4;go_wp2;go_ret2;exact ⟨rfl,rfl⟩
 rw [if_neg h4];have c4:=fun w=>zFs op a b w h4
 have h5:op∈zCd:=by
  unfold zEI at hop;rcases List.mem_append.1 hop with k|k
  ·exact absurd k h1
  rcases List.mem_append.1 k with k|k
  ·exact absurd k h2
  rcases List.mem_append.1 k with k|k
  ·exact absurd k h3
  rcases List.mem_append.1 k with k|k
  ·exact absurd k h4
  exact k
 have c5:=fun w=>narrow_yes op a b w h5 ha0 ha hb0 hb
 clear h1 h2 h3 h4 h5 hop;go_enter func134,ntmps134;go_wp2_with fail;refine (c1 _).mono ?_;rintro e w' ⟨rfl,rfl⟩;clear c1;go_wp2_with fail;refine (c2 _).mono ?_;rintro e w' ⟨rfl,rfl⟩;clear c2;go_wp2_with fail;refine (c3 _).mono ?_;rintro e w' ⟨rfl,rfl⟩;clear c3;go_wp2_with fail;refine (c4 _).mono ?_;rintro e w' ⟨rfl,rfl⟩;clear c4;go_wp2_with fail;refine (c5 _).mono ?_;rintro e w' ⟨rfl,rfl⟩;clear c5;go_wp2;go_ret2;exact ⟨rfl,rfl⟩
theorem do_no (op a b:Int) (w:World) (hop:op ∉ zEI) :
  Calls prog 134 #[.int .i64 op,.int .u64 a,.int .u64 b] w fun e w'=>e=.returned (.tuple #[.int .u64 0,.bool false])∧w=w':=by
 simp only [zEI,List.mem_append,not_or] at hop;obtain ⟨h1,h2,h3,h4,h5⟩:=hop;have c1:=fun w=>zIw op a b w h1
 have c2:=fun w=>zIp op a b w h2
 have c3:=fun w=>zGn op a b w h3
 have c4:=fun w=>zFs op a b w h4
 have c5:=fun w=>narrow_no op a b w h5
 clear h1 h2 h3 h4 h5;go_enter func134,ntmps134;go_wp2_with fail;refine (c1 _).mono ?_;rintro e w' ⟨rfl,rfl⟩;clear c1;go_wp2_with fail;refine (c2 _).mono ?_;rintro e w' ⟨rfl,rfl⟩;clear c2;go_wp2_with fail;refine (c3 _).mono ?_;rintro e w' ⟨rfl,rfl⟩;clear c3;go_wp2_with fail;refine (c4 _).mono ?_;rintro e w' ⟨rfl,rfl⟩;clear c4;go_wp2_with fail;refine (c5 _).mono ?_;rintro e w' ⟨rfl,rfl⟩;clear c5;go_wp2;go_ret2;exact ⟨rfl,rfl⟩
theorem zHj (c:Bool) (w:World):Calls prog 101 #[.bool c] w fun e w'=>e=.returned (.int .u64 (oneI c))∧w=w':=by
 cases c
 ·go_enter func101,ntmps101;go_wp2;go_ret;exact ⟨rfl,rfl⟩
 ·go_enter func101,ntmps101;go_wp2;go_ret;exact ⟨rfl,rfl⟩
def zBm (a f:Int) (n:Nat):Int:=(a - f*18446744073709551616)/2^n%18446744073709551616
theorem right_next (a f:Int) (n:Nat) (ha0:0≤a) (ha:a<18446744073709551616) (hf:f=0∨f=1) :
  bits .or .u64 (zBm a f n/2) (IntKind.u64.wrap (f*9223372036854775808))=zBm a f (n+1):=by
 have e:(a - f*18446744073709551616)/2^(n+1)=(a - f*18446744073709551616)/2^n/2:=by
  rw [Int.pow_succ,← Int.ediv_ediv_of_nonneg (Int.le_of_lt (za _))]
 have hp:=za n;unfold zBm;rw [e];rcases hf with rfl|rfl
 ·have hq:0≤(a - 0*18446744073709551616)/2^n∧(a - 0*18446744073709551616)/2^n≤a:=by
   have:=zEn a (2^n) ha0 hp
   rw [Int.zero_mul,Int.sub_zero];exact this
  generalize (a - 0*18446744073709551616)/2^n=v at *;rw [show IntKind.u64.wrap (0*9223372036854775808)=0 from rfl];obtain ⟨X,rfl⟩:=zze hq.1;have h1:((X:Int)%18446744073709551616/2)=((X/2:Nat):Int):=by omega
  have:=u64_or_nat (X/2) 0 (by omega) (by decide)
  rw [h1,show (0:Int)=((0:Nat):Int) from rfl,this,Nat.or_zero];omega
 ·have hq:-18446744073709551616≤(a - 1*18446744073709551616)/2^n∧(a - 1*18446744073709551616)/2^n<0:=by
   constructor
   ·have h1:=Int.ediv_le_ediv hp (show -18446744073709551616≤a - 1*18446744073709551616 by omega);have h2:-18446744073709551616≤(-18446744073709551616)/(2:Int)^n:=by
     rw [Int.le_ediv_iff_mul_le hp]
     have:=Int.mul_le_mul_of_nonneg_left (show (1:Int)≤2^n by omega) (show (0:Int)≤18446744073709551616 by decide)
     omega
    omega
   ·exact Int.ediv_neg_of_neg_of_pos (by omega) hp
  generalize (a - 1*18446744073709551616)/2^n=v at *;rw [show IntKind.u64.wrap (1*9223372036854775808)=9223372036854775808 from rfl];obtain ⟨X,hX⟩:=zze (show 0≤v%18446744073709551616/2 by omega);have h2:X<2^63:=by omega
  rw [hX,show (9223372036854775808:Int)=((9223372036854775808:Nat):Int) from rfl,u64_or_nat X 9223372036854775808 (by omega) (by decide),Nat.or_comm,
   nat_join 63 9223372036854775808 X (by decide) h2,Int.natCast_add]
  omega
theorem zFi (a f:Int) (n:Nat) (w:World) (ha0:0≤a) (ha:a<18446744073709551616) (hn:n≤64) (hf:f=0∨f=1) :
  Calls prog 102 #[.int .u64 a,.int .u64 n,.int .u64 f] w fun e w'=>e=.returned (.int .u64 (zBm a f n))∧w=w':=by
 have st:=hid (show a=zBm a f 0 by unfold zBm;rw [Int.pow_zero,Int.ediv_one];rcases hf with rfl|rfl<;>omega);have FF:=hid hf;clear hf;go_enter func102,ntmps102;go_wp2
 go_loop [0,1] (fun x i=>∃ k:Nat,k≤n∧i=.int .u64 (n - k)∧x=.int .u64 (zBm a f k)) (fun _ i=>(intOf i).toNat)
 case atStart=>exact ⟨0,by omega,by simp,by rw [← st.out]⟩
 case round =>
  obtain ⟨k,hk,rfl,rfl⟩:=hrel;have hb:0≤zBm a f k∧zBm a f k<18446744073709551616:=by unfold zBm;omega
  by_cases hlt:k<n
  ·have nx:=hid (right_next a f k ha0 ha FF.out);go_wp2
   go_round
   case rel=>exact ⟨k+1,by omega,by go_num,by rw [nx.out]⟩
   case measure=>simp [intOf];omega
  ·obtain rfl:k=n:=by omega
   go_wp2;go_ret;exact ⟨rfl,rfl⟩
def zHl (op a b:Int):Bool:=
 if op=5 then a==b else if op=6 then a != b else if op=7 then decide (wrap64 a<wrap64 b) else if op=8 then !(decide (wrap64 a<wrap64 b))
 else if op=9 then decide (a<b) else !(decide (a<b))
def zCi:List Int:=[5,6,7,8,9,10]
theorem zJo {a b c:Bool} (h:a=b):Ending.returned (.tuple #[.bool a,.bool c])=.returned (.tuple #[.bool b,.bool c]):=by rw [h]
theorem le_not (x y:Int):decide (y≤x)=!(decide (x<y)):=by
 by_cases h:x<y
 ·rw [decide_eq_true h,zzf (by omega)];rfl
 ·rw [zzf h,decide_eq_true (by omega)];rfl
theorem taken_yes (op a b:Int) (w:World) (hop:op∈zCi) :
  Calls prog 125 #[.int .i64 op,.int .u64 a,.int .u64 b] w fun e w'=>e=.returned (.tuple #[.bool (zHl op a b),.bool true])∧w=w':=by
 simp only [zCi,List.mem_cons,zzm,or_false] at hop;rcases hop with rfl|rfl|rfl|rfl|rfl|rfl
 ·go_enter func125,ntmps125;go_wp2;go_ret2;exact ⟨rfl,rfl⟩
 ·go_enter func125,ntmps125;go_wp2;go_ret2;exact ⟨rfl,rfl⟩
 ·go_enter func125,ntmps125;go_wp2;go_ret2;exact ⟨rfl,rfl⟩
 ·go_enter func125,ntmps125;go_wp2;go_ret2;exact ⟨zJo (le_not _ _),rfl⟩
 ·go_enter func125,ntmps125;go_wp2;go_ret2;exact ⟨rfl,rfl⟩
 ·go_enter func125,ntmps125;go_wp2;go_ret2;exact ⟨zJo (le_not _ _),rfl⟩
theorem refTaken_yes (op a b:Int) (w:World) (hop:op∈zCi) (ha0:0≤a) (ha:a<18446744073709551616) (hb0:0≤b) (hb:b<18446744073709551616) :
  Calls prog 55 #[.int .i64 op,.int .u64 a,.int .u64 b] w fun e w'=>e=.returned (.tuple #[.bool (zHl op a b),.bool true])∧w=w':=by
 simp only [zCi,List.mem_cons,zzm,or_false] at hop;rcases hop with rfl|rfl|rfl|rfl|rfl|rfl
 ·go_enter func55,ntmps55;go_wp2;go_ret2;exact ⟨rfl,rfl⟩
 ·go_enter func55,ntmps55;go_wp2;go_ret2;exact ⟨rfl,rfl⟩
 ·go_enter func55,ntmps55;go_wp2_with fail;refine (zFE _ _ _ ha0 ha hb0 hb).mono ?_;rintro e w' ⟨rfl,rfl⟩;go_wp2;go_ret2;exact ⟨rfl,rfl⟩
 ·go_enter func55,ntmps55;go_wp2_with fail;refine (zFE _ _ _ ha0 ha hb0 hb).mono ?_;rintro e w' ⟨rfl,rfl⟩;go_wp2;go_ret2;exact ⟨rfl,rfl⟩
 ·go_enter func55,ntmps55;go_wp2;go_ret2;exact ⟨rfl,rfl⟩
 ·go_enter func55,ntmps55;go_wp2;go_ret2;exact ⟨rfl,rfl⟩
variable {xs:List Int} {b g m n s sb:Nat} {V w w4 w8 w9:World}
theorem StAt.rx {pc ha:Int} (h:StAt w b pc xs ha hn) (r:Nat) (hr:r<32):w.cell? ⟨b,1+r,none⟩=some (.int .u64 (rx xs r)):=h.x r hr
def adr (xs:List Int) (i:Td.Ins):Int:=IntKind.u64.wrap (rx xs i.r1+IntKind.u64.wrap i.im)
theorem zAK (x:Int):0≤IntKind.u64.wrap x∧IntKind.u64.wrap x<18446744073709551616:=by rw [IntKind.wrap_u64];omega
theorem zDv {pc ha:Int} (h:StAt w b pc xs ha hn) (i:Td.Ins) (hr:0≤i.r1∧i.r1<32):
  Calls prog 79 #[zB b,.agg i.cells] w fun e w'=>e=.returned (.int .u64 (adr xs i))∧Bl w w':=by
 obtain ⟨op,rd,r1,r2,im,od,sz⟩:=i;simp only at hr;obtain ⟨r,rfl⟩:=zze hr.1;have hr':r<32:=by omega
 have K0:=hid (Bl.new w (.cells (Td.I7 op rd r r2 im od sz) 38));have H0:=hid (h.bl K0.out);have B0:=hid (zzn w (.cells (Td.I7 op rd r r2 im od sz) 38));clear h;unfold zB;go_enter func79,ntmps79;go_upto_region 1 with (fail);generalize w.alloc (.cells (Td.I7 op rd r r2 im od sz) 38)=W at *;obtain ⟨d0,d1,d2,d3,d4,d5,d6⟩:=zI B0.out;have c0:=H0.out.rx r hr';go_region
 all_goals (
  (try go_wp2_with fail)
  (try simp only [Exit.inBlock,Exit.then])
  go_ret;exact ⟨rfl,K0.out.drew⟩)
theorem zFF {pc ha:Int} (h:StAt w b pc xs ha hn) (hR:Regs xs) (r:Int) (hr:0≤r∧r<32) (y:Int):
  Calls prog 78 #[zB b,.int .i64 r,.int .u64 y] w fun e w'=>e=.returned (.tuple #[])∧StAt w' b y (setX xs r pc) ha hn∧Fr (only b) w w'∧w'.heap.size=w.heap.size:=by
 have c0:=h.pc_;have cp:=zFu h hR r hr pc;have CP:=hid cp;clear cp;clear h;unfold zB at *;go_enter func78,ntmps78;go_wp2_with fail;with_reducible refine CP.out.mono ?_
 rintro e w1 ⟨rfl,h1,f1,s1⟩;have c1:=h1.pc_;have z1:=h1.free 0;have H1:=hid h1;clear h1;have F1:=hid f1;clear f1;have S1:=hid s1;clear s1 c0;go_wp2_with fail;refine bodyPost_end (results_none rfl _ _ _) rfl ?_;exact ⟨rfl,H1.out.zCl y,F1.out.trans (Fr.set (S:=only b) (p:=⟨b,0,none⟩) rfl _),by simpa [World.setCell] using S1.out⟩
def brPc (xs:List Int) (i:Td.Ins) (pc here:Int):Int:=if zHl i.op (rx xs i.r1) (rx xs i.r2)=true then IntKind.u64.wrap (here+IntKind.u64.wrap i.im) else pc
theorem zDV {pc ha here:Int} (h:StAt w b pc xs ha hn) (i:Td.Ins) (ho:5≤i.op∧i.op≤10) (hr:0≤i.r1∧i.r1<32) (hr2:0≤i.r2∧i.r2<32):
  Calls prog 81 #[zB b,.agg i.cells,.int .u64 here] w fun e w'=>e=.returned (.tuple #[])∧StAt w' b (brPc xs i pc here) xs ha hn∧Fr (only b) w w':=by
 obtain ⟨op,rd,r1,r2,im,od,sz⟩:=i;simp only at hr hr2 ho;obtain ⟨r,rfl⟩:=zze hr.1;obtain ⟨s,rfl⟩:=zze hr2.1;have hr':r<32:=by omega
 have hs':s<32:=by omega
 have K0:=hid (Bl.new w (.cells (Td.I7 op rd r s im od sz) 38));have H0:=hid (h.bl K0.out);have B0:=hid (zzn w (.cells (Td.I7 op rd r s im od sz) 38));have ct:=fun W=>taken_yes op (rx xs r) (rx xs s) W (by simp only [zCi,List.mem_cons,zzm,or_false];omega)
 have CT:=hid ct;clear ct;obtain ⟨q,hq⟩:∃ q,q=zHl op (rx xs r) (rx xs s):=⟨_,rfl⟩;rw [← hq] at CT;have e1:brPc xs ⟨op,rd,r,s,im,od,sz⟩ pc here=if q=true then IntKind.u64.wrap (here+IntKind.u64.wrap im) else pc:=by unfold brPc;rw [hq]
 rw [e1];clear h e1 ho;have HQ:=hid hq;clear hq;unfold zB;go_enter func81,ntmps81;go_upto_region 1 with (fail);generalize w.alloc (.cells (Td.I7 op rd r s im od sz) 38)=W at *;obtain ⟨d0,d1,d2,d3,d4,d5,d6⟩:=zI B0.out;have c0:=H0.out.rx r hr';have c1:=H0.out.rx s hs';go_quiet ((go_at_call 125;exact Calls.quiet_of_same ((CT.out _).mono fun _ _ h=>⟨h.1,h.2.symm⟩)))
 have K1:=hid (K0.out.drewN nq);have H1:=hid (H0.out.bl ((Bl.refl W).drewN nq));have d4':(W.drewN nq).cell? ⟨w.heap.size,4,none⟩=some (.int .i64 im):=by simpa using d4
 clear K0 H0 B0 d0 d1 d2 d3 d4 d5 d6 c0 c1 CT;generalize W.drewN nq=V at *;have c2:=H1.out.pc_;have z2:=H1.out.free 0;(try simp only [Exit.inBlock,Exit.then])
 cases q
 ·clear HQ;go_wp2_with fail;refine bodyPost_end (results_none rfl _ _ _) rfl ?_;exact ⟨rfl,H1.out,Fr.zP K1.out⟩
 ·clear HQ;go_wp2_with fail;refine bodyPost_end (results_none rfl _ _ _) rfl ?_;exact ⟨rfl,H1.out.zCl _,(Fr.zP K1.out).trans (Fr.set (S:=only b) (p:=⟨b,0,none⟩) rfl _)⟩
def doA (op a b:Int):Int:=if op∈zEI then doV op a b else 0
def recV (xs:List Int) (i:Td.Ins):Int:=doA i.op (rx xs i.r1) (if zCe i.op then IntKind.u64.wrap i.im else rx xs i.r2)
theorem zKW (op a b:Int) (w:World) (ha:0≤a∧a<18446744073709551616) (hb:0≤b∧b<18446744073709551616) :
  Calls prog 134 #[.int .i64 op,.int .u64 a,.int .u64 b] w fun e w'=>e=.returned (.tuple #[.int .u64 (doA op a b),.bool (decide (op∈zEI))])∧w=w':=by
 unfold doA;by_cases h:op∈zEI
 ·rw [if_pos h,decide_eq_true h];exact do_yes op a b w h ha.1 ha.2 hb.1 hb.2
 ·rw [if_neg h,zzf h];exact do_no op a b w h
theorem reckon_any {pc ha:Int} (h:StAt w b pc xs ha hn) (hR:Regs xs) (i:Td.Ins) (hd:0≤i.rd∧i.rd<32) (hr:0≤i.r1∧i.r1<32) (hr2:0≤i.r2∧i.r2<32):
  Calls prog 88 #[zB b,.agg i.cells] w fun e w'=>e=.returned (.tuple #[])∧StAt w' b pc (setX xs i.rd (recV xs i)) ha hn∧Fr (only b) w w':=by
 obtain ⟨op,rd,r1,r2,im,od,sz⟩:=i;simp only at hr hr2 hd;obtain ⟨r,rfl⟩:=zze hr.1;obtain ⟨s,rfl⟩:=zze hr2.1;have hr':r<32:=by omega
 have hs':s<32:=by omega
 have K0:=hid (Bl.new w (.cells (Td.I7 op rd r s im od sz) 38));have H0:=hid (h.bl K0.out);have B0:=hid (zzn w (.cells (Td.I7 op rd r s im od sz) 38));have bx:=hR.rx r;have by_:=hR.rx s;have bw:=zAK im;have CI:=hid (fun W=>takesImm_any op W);have CX:=hid (fun W=>zKW op (rx xs r) (rx xs s) W bx by_);have CM:=hid (fun W=>zKW op (rx xs r) (IntKind.u64.wrap im) W bx bw);have CP:=hid (fun V y (g:StAt V b pc xs ha hn)=>zFu g hR rd hd y);obtain ⟨q,hq⟩:∃ q,q=decide (op∈zEI):=⟨_,rfl⟩;rw [← hq] at CX CM;obtain ⟨y,hy⟩:∃ y,y=recV xs ⟨op,rd,r,s,im,od,sz⟩:=⟨_,rfl⟩;rw [← hy];unfold recV at hy;simp only at hy;obtain ⟨t,ht⟩:∃ t,t=decide (zCe op):=⟨_,rfl⟩;rw [← ht] at CI;have hz:Hid ((t=true∧y=doA op (rx xs r) (IntKind.u64.wrap im))∨(t=false∧y=doA op (rx xs r) (rx xs s))):=hid (by
  by_cases hi:zCe op
  ·exact .inl ⟨by rw [ht];exact decide_eq_true hi,by rw [hy,if_pos hi]⟩
  ·exact .inr ⟨by rw [ht];exact zzf hi,by rw [hy,if_neg hi]⟩)
 clear h hR hy hq bx by_ bw ht;unfold zB at *;rcases hz.out with ⟨rfl,e2⟩|⟨rfl,e2⟩
 ·rw [← e2] at CM;have CD:=CM;clear hz CM CX e2;go_enter func88,ntmps88;go_upto_region 1 with (fail);generalize w.alloc (.cells (Td.I7 op rd r s im od sz) 38)=W at *;obtain ⟨d0,d1,d2,d3,d4,d5,d6⟩:=zI B0.out;have c0:=H0.out.rx r hr';have c1:=H0.out.rx s hs';go_quiet (fail)
  have K1:=hid (K0.out.drewN nq);have H1:=hid (H0.out.bl ((Bl.refl W).drewN nq));have B1:=hid (((Bl.refl W).drewN nq).at_ B0.out);clear K0 H0 B0 d0 d1 d2 d3 d4 d5 d6 c0 c1;generalize W.drewN nq=V at *;obtain ⟨d0,d1,d2,d3,d4,d5,d6⟩:=zI B1.out;have c0:=H1.out.rx r hr';(try simp only [Exit.inBlock,Exit.then])
  go_upto_region 4 with (go_at_call 133;with_reducible refine (CI.out _).mono ?_;rintro e w1 ⟨rfl,rfl⟩);go_quiet ((go_at_call 134;exact Calls.quiet_of_same ((CD.out _).mono fun _ _ h=>⟨h.1,h.2.symm⟩)))
  have K2:=hid (K1.out.drewN nq);have H2:=hid (H1.out.bl ((Bl.refl V).drewN nq));have d1':(V.drewN nq).cell? ⟨w.heap.size,1,none⟩=some (.int .i64 rd):=by simpa using d1
  clear K1 H1 B1 d0 d1 d2 d3 d4 d5 d6 c0;generalize V.drewN nq=U at *;(try simp only [Exit.inBlock,Exit.then])
  go_wp2_with fail;with_reducible refine (CP.out _ _ H2.out).mono ?_
  rintro e w1 ⟨rfl,h1,f1,s1⟩;go_wp2_with fail;refine bodyPost_end (results_none rfl _ _ _) rfl ?_;exact ⟨rfl,h1,(Fr.zP K2.out).trans f1⟩
 ·rw [← e2] at CX;have CD:=CX;clear hz CM CX e2;go_enter func88,ntmps88;go_upto_region 1 with (fail);generalize w.alloc (.cells (Td.I7 op rd r s im od sz) 38)=W at *;obtain ⟨d0,d1,d2,d3,d4,d5,d6⟩:=zI B0.out;have c0:=H0.out.rx r hr';have c1:=H0.out.rx s hs';go_quiet (fail)
  have K1:=hid (K0.out.drewN nq);have H1:=hid (H0.out.bl ((Bl.refl W).drewN nq));have B1:=hid (((Bl.refl W).drewN nq).at_ B0.out);clear K0 H0 B0 d0 d1 d2 d3 d4 d5 d6 c0 c1;generalize W.drewN nq=V at *;obtain ⟨d0,d1,d2,d3,d4,d5,d6⟩:=zI B1.out;have c0:=H1.out.rx r hr';(try simp only [Exit.inBlock,Exit.then])
  go_upto_region 4 with (go_at_call 133;with_reducible refine (CI.out _).mono ?_;rintro e w1 ⟨rfl,rfl⟩);go_quiet ((go_at_call 134;exact Calls.quiet_of_same ((CD.out _).mono fun _ _ h=>⟨h.1,h.2.symm⟩)))
  have K2:=hid (K1.out.drewN nq);have H2:=hid (H1.out.bl ((Bl.refl V).drewN nq));have d1':(V.drewN nq).cell? ⟨w.heap.size,1,none⟩=some (.int .i64 rd):=by simpa using d1
  clear K1 H1 B1 d0 d1 d2 d3 d4 d5 d6 c0;generalize V.drewN nq=U at *;(try simp only [Exit.inBlock,Exit.then])
  go_wp2_with fail;with_reducible refine (CP.out _ _ H2.out).mono ?_
  rintro e w1 ⟨rfl,h1,f1,s1⟩;go_wp2_with fail;refine bodyPost_end (results_none rfl _ _ _) rfl ?_;exact ⟨rfl,h1,(Fr.zP K2.out).trans f1⟩
structure St where
 pc:Int
 xs:List Int
 ha:Int
 hn:Int
def St.rest (s:St):St:=⟨s.pc,s.xs,0,0⟩
def St.nxt (s:St) (i:Td.Ins):Int:=IntKind.u64.wrap (s.pc+IntKind.u64.wrap i.sz)
def zHT (op y:Int):Int:=if op≤14 then zV y (8*(lwid op:Int)) else y
inductive DoIs (L:List Rg) (M:Nat→Int) (s:St) (i:Td.Ins):Int→Int→Int→St→(Nat→Int)→Prop
 | ecall:i.op=87→DoIs L M s i 1 0 0 s.rest M
 | ebreak:i.op=88→DoIs L M s i 2 0 0 s.rest M
 | fence:i.op=85∨i.op=86→DoIs L M s i 0 0 0 ⟨s.nxt i,s.xs,s.ha,s.hn⟩ M
 | auipc:i.op=2→DoIs L M s i 0 0 0 ⟨s.nxt i,setX s.xs i.rd (IntKind.u64.wrap (s.pc+IntKind.u64.wrap i.im)),s.ha,s.hn⟩ M
 | jal:i.op=3→DoIs L M s i 0 0 0 ⟨IntKind.u64.wrap (s.pc+IntKind.u64.wrap i.im),setX s.xs i.rd (s.nxt i),s.ha,s.hn⟩ M
 | jalr:i.op=4→DoIs L M s i 0 0 0 ⟨adr s.xs i/2*2,setX s.xs i.rd (s.nxt i),s.ha,s.hn⟩ M
 | branch:5≤i.op∧i.op≤10→DoIs L M s i 0 0 0 ⟨brPc s.xs i (s.nxt i) s.pc,s.xs,s.ha,s.hn⟩ M
 | loadBad (z:Int):11≤i.op∧i.op≤17→zg L 1 (adr s.xs i) (lwid i.op) z→DoIs L M s i 4 1 z s.rest M
 | loadOk:11≤i.op∧i.op≤17→zAi L 1 (adr s.xs i) (lwid i.op)→DoIs L M s i 0 0 0 ⟨s.nxt i,setX s.xs i.rd (zHT i.op (zb M (adr s.xs i).toNat (lwid i.op))),s.ha,s.hn⟩ M
 | storeBad (z:Int):18≤i.op∧i.op≤21→zg L 2 (adr s.xs i) (swid i.op) z→DoIs L M s i 4 2 z s.rest M
 | storeOk:18≤i.op∧i.op≤21→zAi L 2 (adr s.xs i) (swid i.op)→DoIs L M s i 0 0 0 ⟨s.nxt i,s.xs,s.ha,s.hn⟩ (lay M (adr s.xs i).toNat (putB (rx s.xs i.r2) (swid i.op)))
 | atomBad (o:Out) (M':Nat→Int):63≤i.op∧i.op≤84→zO L M s.ha s.hn i.op (rx s.xs i.r1).toNat (rx s.xs i.r2) o M'→o.k≠0→DoIs L M s i o.k o.fk o.fa s.rest M'
 | atomOk (o:Out) (M':Nat→Int):63≤i.op∧i.op≤84→zO L M s.ha s.hn i.op (rx s.xs i.r1).toNat (rx s.xs i.r2) o M'→o.k=0→DoIs L M s i 0 o.fk o.fa ⟨s.nxt i,setX s.xs i.rd o.y,o.ta,o.tn⟩ M'
 | reck:i.op=1∨(22≤i.op∧i.op≤62)∨i.op≤0∨88<i.op→DoIs L M s i 0 0 0 ⟨s.nxt i,setX s.xs i.rd (recV s.xs i),s.ha,s.hn⟩ M
variable {L:List Rg} {M M' M1 M2:Nat→Int} {i:Td.Ins}
theorem DoIs.one {s:St} {k fk' fa':Int} {s1 s2:St} (h:DoIs L M s i k fk fa s1 M1) (g:DoIs L M s i k' fk' fa' s2 M2):
  k=k'∧fk=fk'∧fa=fa'∧s1=s2∧M1=M2:=by
 cases h with
 | ecall h=>cases g<;>first|exact ⟨rfl,rfl,rfl,rfl,rfl⟩|omega
 | ebreak h=>cases g<;>first|exact ⟨rfl,rfl,rfl,rfl,rfl⟩|omega
 | fence h=>cases g<;>first|exact ⟨rfl,rfl,rfl,rfl,rfl⟩|omega
 | auipc h=>cases g<;>first|exact ⟨rfl,rfl,rfl,rfl,rfl⟩|omega
 | jal h=>cases g<;>first|exact ⟨rfl,rfl,rfl,rfl,rfl⟩|omega
 | jalr h=>cases g<;>first|exact ⟨rfl,rfl,rfl,rfl,rfl⟩|omega
 | branch h=>cases g<;>first|exact ⟨rfl,rfl,rfl,rfl,rfl⟩|omega
 | reck h=>cases g<;>first|exact ⟨rfl,rfl,rfl,rfl,rfl⟩|omega
 | loadBad z h hf=>cases g with
  | loadBad z' h' hf'=>obtain rfl:=hf.one hf';exact ⟨rfl,rfl,rfl,rfl,rfl⟩
  | loadOk h' hf'=>exact absurd hf' hf.not
  | _=>omega
 | loadOk h hf=>cases g with
  | loadBad z' h' hf'=>exact absurd hf hf'.not
  | loadOk h' hf'=>exact ⟨rfl,rfl,rfl,rfl,rfl⟩
  | _=>omega
 | storeBad z h hf=>cases g with
  | storeBad z' h' hf'=>obtain rfl:=hf.one hf';exact ⟨rfl,rfl,rfl,rfl,rfl⟩
  | storeOk h' hf'=>exact absurd hf' hf.not
  | _=>omega
 | storeOk h hf=>cases g with
  | storeBad z' h' hf'=>exact absurd hf hf'.not
  | storeOk h' hf'=>exact ⟨rfl,rfl,rfl,rfl,rfl⟩
  | _=>omega
 | atomBad o N h hf hk=>cases g with
  | atomBad o' N' h' hf' hk'=>obtain ⟨rfl,rfl⟩:=hf.one hf';exact ⟨rfl,rfl,rfl,rfl,rfl⟩
  | atomOk o' N' h' hf' hk'=>obtain ⟨rfl,rfl⟩:=hf.one hf';exact absurd hk' hk
  | _=>omega
 | atomOk o N h hf hk=>cases g with
  | atomBad o' N' h' hf' hk'=>obtain ⟨rfl,rfl⟩:=hf.one hf';exact absurd hk hk'
  | atomOk o' N' h' hf' hk'=>obtain ⟨rfl,rfl⟩:=hf.one hf';exact ⟨rfl,rfl,rfl,rfl,rfl⟩
  | _=>omega
theorem bits_bd (op:BinOp) (hop:op=.xor∨op=.or∨op=.and) (a b:Int) (ha:0≤a∧a<18446744073709551616) (hb:0≤b∧b<18446744073709551616):0≤bits op .u64 a b∧bits op .u64 a b<18446744073709551616:=by
 obtain ⟨A,rfl⟩:=zze ha.1;obtain ⟨B,rfl⟩:=zze hb.1;have hA:A<2^64:=by omega
 have hB:B<2^64:=by omega
 rcases hop with rfl|rfl|rfl
 ·rw [u64_xor_nat A B (by omega) (by omega)]
  have:=Nat.xor_lt_two_pow hA hB
  omega
 ·rw [u64_or_nat A B (by omega) (by omega)]
  have:=Nat.or_lt_two_pow hA hB
  omega
 ·rw [u64_and_nat A B (by omega) (by omega)]
  have:=Nat.and_lt_two_pow (n:=64) A hB
  omega
theorem doA_bd (op a b:Int) (ha:0≤a∧a<18446744073709551616) (hb:0≤b∧b<18446744073709551616):0≤doA op a b∧doA op a b<18446744073709551616:=by
 have s32:∀ x,0≤zV x 32∧zV x 32<18446744073709551616:=fun x=>by
  unfold zV;rw [if_pos (by omega)];exact zJc _ _
 unfold doA
 split
 ·unfold doV
  split
  ·unfold zJv
   repeat' split
   all_goals first|exact zAK _|(apply bits_bd<;>first|assumption|simp)|(unfold oneI;split<;>omega)|assumption|skip
  ·split
   ·unfold zIq
    repeat' split
    all_goals first|exact zAK _|skip
    have hq:=zEn a (2^(b%64).toNat) ha.1 (za _);omega
   ·split
    ·unfold zHO
     repeat' split
     ·exact zAK _
     ·exact mulh_bd _ _
     ·exact mulhsu_bd _ _
     ·exact zJE _ _ ha.1 ha.2 hb.1 hb.2
    ·split
     ·unfold zFt
      repeat' split
      ·unfold divI;split
       ·omega
       ·exact zAK _
      ·unfold zHb;split
       ·omega
       ·have:=zEn a b ha.1 (by omega);omega
      ·unfold remI;split
       ·omega
       ·exact zAK _
      ·unfold zHK;split
       ·omega
       ·have h1:=Int.emod_nonneg a (show b≠0 by assumption);have h2:=Int.emod_lt_of_pos a (show 0<b by omega);omega
     ·unfold zFy;split<;>exact s32 _
 ·omega
theorem recV_bd (h:Regs xs) (i:Td.Ins):0≤recV xs i∧recV xs i<18446744073709551616:=by
 unfold recV;refine doA_bd _ _ _ (h.rx _) ?_
 split
 ·exact zAK _
 ·exact h.rx _
theorem zFC (h:∀ x,0≤M x∧M x≤255) (a n:Nat) (hn:n=1∨n=2∨n=4∨n=8):0≤zb M a n∧zb M a n<18446744073709551616:=by
 have h1:=zHX (zf M a n) (zCh h a n) n;unfold zb;rcases hn with rfl|rfl|rfl|rfl;all_goals
  refine ⟨h1.1,?_⟩;have h2:=h1.2;have h3:(2:Int)^(8*8)=18446744073709551616:=by decide
  have h4:(2:Int)^(8*4)=4294967296:=by decide
  have h5:(2:Int)^(8*2)=65536:=by decide
  have h6:(2:Int)^(8*1)=256:=by decide
  omega
theorem zO.bd {ha:Int} {a:Nat} {x:Int} {o:Out} (h:zO L M ha hn op a x o M') (hM:∀ x,0≤M x∧M x≤255):0≤o.y∧o.y<18446744073709551616:=by
 have hw:awid op=0∨awid op=4∨awid op=8:=by
  rcases zFL op with h|h
  ·exact .inl h.1
  ·rcases (by omega:(63≤op∧op≤73)∨(74≤op∧op≤84)) with g|g
   ·exact .inr (.inl (zIQ g))
   ·exact .inr (.inr (zIP g))
 have hs:0≤zV (zb M a (awid op)) (8*(awid op:Int))∧zV (zb M a (awid op)) (8*(awid op:Int))<18446744073709551616:=by
  refine (fun (h:0≤zb M a (awid op)∧zb M a (awid op)<18446744073709551616)=>zCM _ _ h.1 h.2) ?_;rcases hw with hw|hw|hw
  ·rw [hw,show zb M a 0=0 from rfl];omega
  ·exact zFC hM _ _ (by omega)
  ·exact zFC hM _ _ (by omega)
 cases h<;>first|exact hs|(simp only [badO];omega)|(constructor<;>decide)
theorem DoIs.keep {s:St} {k:Int} {s1:St} (h:DoIs L M s i k fk fa s1 M1) (hM:∀ x,0≤M x∧M x≤255) (hR:Regs s.xs) (hp:0≤s.pc∧s.pc<18446744073709551616) (hd:0≤i.rd∧i.rd<32):
  Regs s1.xs∧0≤s1.pc∧s1.pc<18446744073709551616:=by
 have ha:0≤adr s.xs i∧adr s.xs i<18446744073709551616:=zAK _;have hn:0≤s.nxt i∧s.nxt i<18446744073709551616:=zAK _;cases h with
 | ecall h=>exact ⟨hR,hp⟩
 | ebreak h=>exact ⟨hR,hp⟩
 | fence h=>exact ⟨hR,hn⟩
 | auipc h=>exact ⟨hR.set _ _ hd (zAK _),hn⟩
 | jal h=>exact ⟨hR.set _ _ hd hn,zAK _⟩
 | jalr h=>exact ⟨hR.set _ _ hd hn,by simp only;omega⟩
 | branch h=>exact ⟨hR,by unfold brPc;split;exact zAK _;exact hn⟩
 | loadBad z h hf=>exact ⟨hR,hp⟩
 | loadOk h hf =>
  refine ⟨hR.set _ _ hd ?_,hn⟩
  have:=zFC hM (adr s.xs i).toNat (lwid i.op) (zEY _)
  unfold zHT
  split
  ·exact zCM _ _ this.1 this.2
  ·exact this
 | storeBad z h hf=>exact ⟨hR,hp⟩
 | storeOk h hf=>exact ⟨hR,hn⟩
 | atomBad o N h hf hk=>exact ⟨hR,hp⟩
 | atomOk o N h hf hk=>exact ⟨hR.set _ _ hd (hf.bd hM),hn⟩
 | reck h=>exact ⟨hR.set _ _ hd (recV_bd hR i),hn⟩
section
variable {T:Nat→Prop} {w:World} {b sb n:Nat} {pc ha hn:Int} {xs:List Int} {L:List Rg} {M st:Nat→Int} {mo ba en:Int}
theorem zBf (w:World) (a b:Obj):((w.alloc a).alloc b).heap[w.heap.size]?=some a∧((w.alloc a).alloc b).heap[w.heap.size+1]?=some b:=by
 refine ⟨(Bl.new _ _).at_ (zzn w a),?_⟩
 have:=zzn (w.alloc a) b
 rwa [show (w.alloc a).heap.size=w.heap.size+1 by simp] at this
def zGz (w:World) (b:Nat) (pc:Int) (xs:List Int) (ha hn:Int) (L:List Rg) (M:Nat→Int) (i:Td.Ins) (e:Ending) (w':World):Prop:=
 (∃ z,zg L 1 (adr xs i) (lwid i.op) z∧e=.returned (zAD 4 1 z)∧Bl w w') ∨
 (zAi L 1 (adr xs i) (lwid i.op)∧e=.returned (zAD 0 0 0)∧StAt w' b pc (setX xs i.rd (zHT i.op (zb M (adr xs i).toNat (lwid i.op)))) ha hn∧Fr (only b) w w')
theorem haLoad_any (h:StAt w b pc xs ha hn) (hR:Regs xs) (hm:MS T w sb n L M st mo ba en) (i:Td.Ins) (ho:11≤i.op∧i.op≤17) (hd:0≤i.rd∧i.rd<32) (hr:0≤i.r1∧i.r1<32) :
  Calls prog 83 #[zB b,zB sb,.agg i.cells] w (zGz w b pc xs ha hn L M i):=by
 have K0:=hid ((Bl.new w (.cells i.cells 38)).alloc (.cells #[.int .i64 0,.int .i64 0,.int .u64 0] 33));obtain ⟨b0,b1⟩:=zBf w (.cells i.cells 38) (.cells #[.int .i64 0,.int .i64 0,.int .u64 0] 33);obtain ⟨m,hmm⟩:∃ m:Nat,m=lwid i.op:=⟨_,rfl⟩;have hmw:=zEY i.op;obtain ⟨a,haa⟩:=zze (show 0≤adr xs i from (zAK _).1);have hab:a<18446744073709551616:=by have:=(zAK (rx xs i.r1+IntKind.u64.wrap i.im)).2;unfold adr at haa;omega
 have CB:=hid (fun W=>loadBytes_any i.op W ho);have CA:=hid (fun W (k:Bl w W)=>zDv (h.bl k) i hr);have CL:=hid (fun W (k:Bl w W)=>zHS (hm.bl k) a m hab (by rw [hmm];exact hmw));have CP:=hid (fun V y (g:StAt V b pc xs ha hn)=>zFu g hR i.rd hd y);have CF:=hid (fun k x w=>zGD k x w);have CS:=hid (fun x W=>zCL x (8*(m:Int)) W);have wm:IntKind.i64.wrap (8*(m:Int))=8*(m:Int):=by rw [IntKind.wrap_i64];omega
 have H:=hid h;clear h;unfold zGz;have lv:∀ y,zHT i.op y=if i.op≤14 then zV y (8*(m:Int)) else y:=fun y=>by unfold zHT;rw [hmm]
 simp only [lv];rw [haa,← hmm];simp only [haa] at CA;rw [← hmm] at CB;clear hm hR hmm hmw haa lv hab;have B0:=hid b0;clear b0;have B1:=hid b1;clear b1;have WM:=hid wm;clear wm;obtain ⟨op,rd,r1,r2,im,od,sz⟩:=i;simp only at ho hd hr CB CA CP;simp only [Int.toNat_natCast];obtain ⟨v,hv⟩:∃ v,v=if op≤14 then zV (zb M a m) (8*(m:Int)) else zb M a m:=⟨_,rfl⟩
 rw [← hv];have HV:=hid hv;clear hv;unfold zB zAD zt at *;go_enter func83,ntmps83;go_upto_region 1 with (fail);generalize (w.alloc (.cells (Td.I7 op rd r1 r2 im od sz) 38)).alloc (.cells #[.int .i64 0,.int .i64 0,.int .u64 0] 33)=W at *;obtain ⟨d0,d1,d2,d3,d4,d5,d6⟩:=zI B0.out;go_upto_region 2 with (go_at_call 126;with_reducible refine (CB.out _).mono ?_;rintro e w1 ⟨rfl,rfl⟩);go_wp2_with fail;with_reducible refine (CA.out _ K0.out).mono ?_
 rintro e w1 ⟨rfl,k1⟩;clear d0 d1 d2 d3 d4 d5 d6;have K1:=hid (K0.out.trans k1);have B0':=hid (k1.at_ B0.out);have B1':=hid (k1.at_ B1.out);clear k1 K0 B0 B1;go_wp2_with fail;with_reducible refine (CL.out _ K1.out).mono ?_
 rintro e w2 ⟨y,k,x,rfl,hh,k2⟩;have K2:=hid (K1.out.trans k2);have B0:=hid (k2.at_ B0'.out);have B1:=hid (k2.at_ B1'.out);clear k2 K1 B0' B1';unfold zt;have hlt:=H.out.lt;rcases hh with ⟨rfl,rfl,h1,h2,h3,h4⟩|⟨rfl,rfl,rfl,h4⟩
 ·have HH:Hid (zg L 1 a m x):=hid ⟨h1,h2,h3,h4⟩;clear h1 h2 h3 h4;go_wp2_with fail;with_reducible refine (CF.out 1 x _).mono ?_
  rintro e w3 ⟨rfl,k3⟩;have K3:=hid ((K2.out.alloc (.cells #[.int .i64 1,.int .u64 x] 31)).trans k3);have C1:=hid (((Bl.new w2 (.cells #[.int .i64 1,.int .u64 x] 31)).trans k3).at_ B1.out);clear k3;obtain ⟨d0,d1,d2⟩:=zD C1.out;have z0:=free_at C1.out;go_wp2_with fail;have s3:=set3 (.int .i64 4) (.int .i64 1) (.int .u64 x) C1.out;refine zzb (Td.zAk rfl _ _ (w.heap.size+1) rfl s3 rfl) rfl ?_;refine Or.inl ⟨x,HH.out,rfl,?_⟩;exact ((((Fr.zP (S:=fun _=>False) K3.out).zH (p:=⟨w.heap.size+1,0,none⟩) (by simp) _).zH (p:=⟨w.heap.size+1,1,none⟩) (by simp) _).zH (p:=⟨w.heap.size+1,2,none⟩) (by simp) _).bl (fun _ _ e=>e)
 ·have HH:Hid (zAi L 1 a m):=hid h4;clear h4;go_upto_region 5 with (fail);have K3:=hid (K2.out.alloc (.cells #[.int .i64 0,.int .u64 0] 31));have C0:=hid ((Bl.new w2 (.cells #[.int .i64 0,.int .u64 0] 31)).at_ B0.out);have C1:=hid ((Bl.new w2 (.cells #[.int .i64 0,.int .u64 0] 31)).at_ B1.out);generalize w2.alloc (.cells #[.int .i64 0,.int .u64 0] 31)=W3 at *;clear K2 B0 B1;obtain ⟨d0,d1,d2,d3,d4,d5,d6⟩:=zI C0.out;clear d2 d3 d4 d5 d6;have wm:=WM.out;by_cases h14:op≤14
  ·have hv:=HV.out;rw [if_pos h14] at hv;have HV2:=hid hv;clear hv HV;go_wp2_with fail;with_reducible refine (CS.out _ _).mono ?_
   rintro e w3 ⟨rfl,rfl⟩;go_wp2_with fail;rw [← HV2.out];with_reducible refine (CP.out _ _ (H.out.bl K3.out)).mono ?_
   rintro e w4 ⟨rfl,h4,f4,s4⟩;have G1:=hid (f4.at_ C1.out (fun e=>by have e':w.heap.size+1=b:=e;omega));have H4:=hid h4;clear h4;have F4:=hid ((Fr.zP (S:=only b) K3.out).trans f4);clear f4;clear d0 d1 CP;obtain ⟨d0,d1,d2⟩:=zD G1.out;have z0:=free_at G1.out;go_wp2_with fail;have s3:=set3 (.int .i64 0) (.int .i64 0) (.int .u64 0) G1.out;refine zzb (Td.zAk rfl _ _ (w.heap.size+1) rfl s3 rfl) rfl ?_;have f5:Fr (only (w.heap.size+1)) w4 (((w4.setCell ⟨w.heap.size+1,0,none⟩ (.int .i64 0)).setCell ⟨w.heap.size+1,1,none⟩ (.int .i64 0)).setCell ⟨w.heap.size+1,2,none⟩ (.int .u64 0)):=((Fr.set (S:=only (w.heap.size+1)) (p:=⟨w.heap.size+1,0,none⟩) rfl _).trans (Fr.set (S:=only (w.heap.size+1)) (p:=⟨w.heap.size+1,1,none⟩) rfl _)).trans (Fr.set (S:=only (w.heap.size+1)) (p:=⟨w.heap.size+1,2,none⟩) rfl _);refine Or.inr ⟨HH.out,rfl,H4.out.fr f5 (fun e=>by have e':b=w.heap.size+1:=e;omega),?_⟩;exact ((F4.out.zH (p:=⟨w.heap.size+1,0,none⟩) (by simp) _).zH (p:=⟨w.heap.size+1,1,none⟩) (by simp) _).zH (p:=⟨w.heap.size+1,2,none⟩) (by simp) _
  ·have hv:=HV.out;rw [if_neg h14] at hv;have HV2:=hid hv;clear hv HV;go_wp2_with fail;rw [← HV2.out];with_reducible refine (CP.out _ _ (H.out.bl K3.out)).mono ?_
   rintro e w4 ⟨rfl,h4,f4,s4⟩;have G1:=hid (f4.at_ C1.out (fun e=>by have e':w.heap.size+1=b:=e;omega));have H4:=hid h4;clear h4;have F4:=hid ((Fr.zP (S:=only b) K3.out).trans f4);clear f4;clear d0 d1 CP;obtain ⟨d0,d1,d2⟩:=zD G1.out;have z0:=free_at G1.out;go_wp2_with fail;have s3:=set3 (.int .i64 0) (.int .i64 0) (.int .u64 0) G1.out;refine zzb (Td.zAk rfl _ _ (w.heap.size+1) rfl s3 rfl) rfl ?_;have f5:Fr (only (w.heap.size+1)) w4 (((w4.setCell ⟨w.heap.size+1,0,none⟩ (.int .i64 0)).setCell ⟨w.heap.size+1,1,none⟩ (.int .i64 0)).setCell ⟨w.heap.size+1,2,none⟩ (.int .u64 0)):=((Fr.set (S:=only (w.heap.size+1)) (p:=⟨w.heap.size+1,0,none⟩) rfl _).trans (Fr.set (S:=only (w.heap.size+1)) (p:=⟨w.heap.size+1,1,none⟩) rfl _)).trans (Fr.set (S:=only (w.heap.size+1)) (p:=⟨w.heap.size+1,2,none⟩) rfl _);refine Or.inr ⟨HH.out,rfl,H4.out.fr f5 (fun e=>by have e':b=w.heap.size+1:=e;omega),?_⟩;exact ((F4.out.zH (p:=⟨w.heap.size+1,0,none⟩) (by simp) _).zH (p:=⟨w.heap.size+1,1,none⟩) (by simp) _).zH (p:=⟨w.heap.size+1,2,none⟩) (by simp) _
end
section
variable {T:Nat→Prop} {w:World} {b sb n:Nat} {pc ha hn:Int} {xs:List Int} {L:List Rg} {M st:Nat→Int} {mo ba en:Int}
def zGP (T:Nat→Prop) (w:World) (b sb n:Nat) (pc:Int) (xs:List Int) (ha hn:Int) (L:List Rg) (M st:Nat→Int) (mo ba en:Int) (i:Td.Ins) (e:Ending) (w':World):Prop:=
 (∃ z,zg L 2 (adr xs i) (swid i.op) z∧e=.returned (zAD 4 2 z)∧Bl w w') ∨
 (zAi L 2 (adr xs i) (swid i.op)∧e=.returned (zAD 0 0 0)∧(∃ st',Grow M (lay M (adr xs i).toNat (putB (rx xs i.r2) (swid i.op))) st st'∧MS T w' sb (n+9) L (lay M (adr xs i).toNat (putB (rx xs i.r2) (swid i.op))) st' mo ba en)∧Fr T w w')
variable {a0 a1 a2 a3 a4 a5 a6 z:Value}
theorem zGB {b:Nat} {y:Value} (h:w8.cell? ⟨g,0,none⟩=some a0∧w8.cell? ⟨g,1,none⟩=some a1∧w8.cell? ⟨g,2,none⟩=some a2∧w8.cell? ⟨g,3,none⟩=some a3∧w8.cell? ⟨g,4,none⟩=some a4∧w8.cell? ⟨g,5,none⟩=some a5∧w8.cell? ⟨g,6,none⟩=some a6∧w8.cell? ⟨b,s,none⟩=some y) (k:Bl w8 w9):
  w9.cell? ⟨g,0,none⟩=some a0∧w9.cell? ⟨g,1,none⟩=some a1∧w9.cell? ⟨g,2,none⟩=some a2∧w9.cell? ⟨g,3,none⟩=some a3∧w9.cell? ⟨g,4,none⟩=some a4∧w9.cell? ⟨g,5,none⟩=some a5∧w9.cell? ⟨g,6,none⟩=some a6∧w9.cell? ⟨b,s,none⟩=some y:=
 ⟨k.cell' h.1,k.cell' h.2.1,k.cell' h.2.2.1,k.cell' h.2.2.2.1,k.cell' h.2.2.2.2.1,k.cell' h.2.2.2.2.2.1,k.cell' h.2.2.2.2.2.2.1,k.cell' h.2.2.2.2.2.2.2⟩
variable {U:Nat→Prop}
theorem zCW {p:Addr} {v:Value} (h:w8.cell? p=some v) (k:Fr U w8 w9) (hn':¬ U p.block):w9.cell? p=some v:=by
 rw [World.cell?_of_block (w:=w8) (k.block _ (World.block_lt_of_cell? w8 _ h) hn')];exact h
theorem zKQ {b:Nat} {y:Value} (h:w8.cell? ⟨g,0,none⟩=some a0∧w8.cell? ⟨g,1,none⟩=some a1∧w8.cell? ⟨g,2,none⟩=some a2∧w8.cell? ⟨g,3,none⟩=some a3∧w8.cell? ⟨g,4,none⟩=some a4∧w8.cell? ⟨g,5,none⟩=some a5∧w8.cell? ⟨g,6,none⟩=some a6∧w8.cell? ⟨b,s,none⟩=some y) (k:Fr U w8 w9) (h1:¬ U g) (h2:¬ U b):
  w9.cell? ⟨g,0,none⟩=some a0∧w9.cell? ⟨g,1,none⟩=some a1∧w9.cell? ⟨g,2,none⟩=some a2∧w9.cell? ⟨g,3,none⟩=some a3∧w9.cell? ⟨g,4,none⟩=some a4∧w9.cell? ⟨g,5,none⟩=some a5∧w9.cell? ⟨g,6,none⟩=some a6∧w9.cell? ⟨b,s,none⟩=some y:=
 ⟨zCW h.1 k h1,zCW h.2.1 k h1,zCW h.2.2.1 k h1,zCW h.2.2.2.1 k h1,zCW h.2.2.2.2.1 k h1,zCW h.2.2.2.2.2.1 k h1,zCW h.2.2.2.2.2.2.1 k h1,zCW h.2.2.2.2.2.2.2 k h2⟩
theorem zBi {p:Addr} {v u:Value} {f:Nat} (h:w8.cell? p=some v) (hn':p.block≠f):((w8.setCell ⟨f,0,none⟩ u).setCell ⟨f,1,none⟩ z).cell? p=some v:=
 zCW (U:=only f) h ((Fr.set (S:=only f) (p:=⟨f,0,none⟩) rfl _).trans (Fr.set (S:=only f) (p:=⟨f,1,none⟩) rfl _)) hn'
theorem keepT8 {f b:Nat} {u:Value} {y:Value} (h:w8.cell? ⟨g,0,none⟩=some a0∧w8.cell? ⟨g,1,none⟩=some a1∧w8.cell? ⟨g,2,none⟩=some a2∧w8.cell? ⟨g,3,none⟩=some a3∧w8.cell? ⟨g,4,none⟩=some a4∧w8.cell? ⟨g,5,none⟩=some a5∧w8.cell? ⟨g,6,none⟩=some a6∧w8.cell? ⟨b,s,none⟩=some y) (h1:g≠f) (h2:b≠f):
  ((w8.setCell ⟨f,0,none⟩ u).setCell ⟨f,1,none⟩ z).cell? ⟨g,0,none⟩=some a0∧((w8.setCell ⟨f,0,none⟩ u).setCell ⟨f,1,none⟩ z).cell? ⟨g,1,none⟩=some a1∧((w8.setCell ⟨f,0,none⟩ u).setCell ⟨f,1,none⟩ z).cell? ⟨g,2,none⟩=some a2∧((w8.setCell ⟨f,0,none⟩ u).setCell ⟨f,1,none⟩ z).cell? ⟨g,3,none⟩=some a3∧((w8.setCell ⟨f,0,none⟩ u).setCell ⟨f,1,none⟩ z).cell? ⟨g,4,none⟩=some a4∧((w8.setCell ⟨f,0,none⟩ u).setCell ⟨f,1,none⟩ z).cell? ⟨g,5,none⟩=some a5∧((w8.setCell ⟨f,0,none⟩ u).setCell ⟨f,1,none⟩ z).cell? ⟨g,6,none⟩=some a6∧((w8.setCell ⟨f,0,none⟩ u).setCell ⟨f,1,none⟩ z).cell? ⟨b,s,none⟩=some y:=
 ⟨zBi h.1 h1,zBi h.2.1 h1,zBi h.2.2.1 h1,zBi h.2.2.2.1 h1,zBi h.2.2.2.2.1 h1,zBi h.2.2.2.2.2.1 h1,zBi h.2.2.2.2.2.2.1 h1,zBi h.2.2.2.2.2.2.2 h2⟩
theorem zAS {T:Nat→Prop} {lo hi:Nat} (h:g<hi) (h':lo≤g):¬ gap T lo hi g:=fun e=>e.2 ⟨h',h⟩
theorem zAu {T:Nat→Prop} {lo hi:Nat} (h:¬ T g):¬ gap T lo hi g:=fun e=>h e.1
theorem zFb {T:Nat → Prop} {sb n:Nat} {L:List Rg} {M st:Nat → Int} {mo ba en:Int} {a:Nat} {x k y:Int} (hs:(k = 2∧(a:Int) ≤ y∧y < a + m∧¬ Can L 2 y∧(∀ z,(a:Int) ≤ z → z < y → Can L 2 z)∧Bl V w4) ∨
 (k = 0∧y = 0∧(∀ z,(a:Int) ≤ z → z < a + m → Can L 2 z)∧∃ st',MS T w4 sb (n + 9) L (lay M a (putB x m)) st' mo ba en∧Rise st st' (fun p=>∃ x,a ≤ x∧x < a + m∧p = x / 4096)∧Fr T V w4)):Fr T V w4:=by
  rcases hs with h | h
  · exact Fr.zP h.2.2.2.2.2
  · obtain ⟨_,_,_,_,_,_,h⟩:=h;exact h
def StMout (T:Nat→Prop) (w Z:World) (sb n:Nat) (L:List Rg) (M st:Nat→Int) (mo ba en:Int) (a m:Nat) (x k y:Int):Prop:=
 (k=2∧zg L 2 a m y∧Bl w Z)∨(k=0∧y=0∧zAi L 2 a m∧(∃ st' hi,Grow M (lay M a (putB x m)) st st'∧MS (gap T w.heap.size hi) Z sb (n+9) L (lay M a (putB x m)) st' mo ba en∧w.heap.size+1<hi)∧Fr T w Z)
theorem storeM_finA {T:Nat → Prop} {w:World} {sb n:Nat} {L:List Rg} {M st:Nat → Int} {mo ba en:Int} {a:Nat} {x k y:Int} {tr:TypeId} {r:Array Value} (kV:Bl w V) (hs:(k = 2∧(a:Int) ≤ y∧y < a + m∧¬ Can L 2 y∧(∀ z,(a:Int) ≤ z → z < y → Can L 2 z)∧Bl V w4) ∨
 (k = 0∧y = 0∧(∀ z,(a:Int) ≤ z → z < a + m → Can L 2 z)∧∃ st',MS (gap T w.heap.size V.heap.size) w4 sb (n + 9) L (lay M a (putB x m)) st' mo ba en∧Rise st st' (fun p=>∃ x,a ≤ x∧x < a + m∧p = x / 4096)∧Fr (gap T w.heap.size V.heap.size) V w4))
 (hQ:w4.heap[w.heap.size + 1]? = some (.cells r tr (0,0))) (hlt:w.heap.size + 1 < V.heap.size):
    (w4.alloc (.cells #[.int .i64 k,.int .u64 y] 31)).heap[w4.heap.size]? = some (.cells #[.int .i64 k,.int .u64 y] 31 (0,0))∧(w4.alloc (.cells #[.int .i64 k,.int .u64 y] 31)).heap[w.heap.size + 1]? = some (.cells r tr (0,0)) ∧
    StMout T w (w4.alloc (.cells #[.int .i64 k,.int .u64 y] 31)) sb n L M st mo ba en a m x k y:=by
  refine ⟨zzn _ _,(Bl.new _ _).at_ hQ,?_⟩
  rcases hs with ⟨rfl,h1,h2,h3,h4,h5⟩ | ⟨rfl,rfl,h1,st',h2,hg,h3⟩
  · exact .inl ⟨rfl,⟨h1,h2,h3,h4⟩,(kV.trans h5).alloc _⟩
  · exact .inr ⟨rfl,rfl,h1,⟨st',V.heap.size,zFI hg,h2.bl (Bl.new _ _),hlt⟩,((Fr.zP kV).trans h3.zBW).trans (Fr.zP (Bl.new _ _))⟩
theorem zDi {T:Nat → Prop} {w:World} {sb n f:Nat} {L:List Rg} {M st:Nat → Int} {mo ba en:Int} {a:Nat} {x k y:Int} {tr:TypeId} {r:Array Value} {u v:Value} (kV:Bl w V) (hs:(k = 2∧(a:Int) ≤ y∧y < a + m∧¬ Can L 2 y∧(∀ z,(a:Int) ≤ z → z < y → Can L 2 z)∧Bl V w4) ∨
 (k = 0∧y = 0∧(∀ z,(a:Int) ≤ z → z < a + m → Can L 2 z)∧∃ st',MS (gap T w.heap.size V.heap.size) w4 sb (n + 9) L (lay M a (putB x m)) st' mo ba en∧Rise st st' (fun p=>∃ x,a ≤ x∧x < a + m∧p = x / 4096)∧Fr (gap T w.heap.size V.heap.size) V w4))
 (hF:w4.heap[f]? = some (.cells #[u,v] 31 (0,0))) (hQ:w4.heap[w.heap.size + 1]? = some (.cells r tr (0,0))) (hf:w.heap.size ≤ f) (hf2:f < V.heap.size) (hne:w.heap.size + 1 ≠ f) (hlt:w.heap.size + 1 < V.heap.size):
    ((w4.setCell ⟨f,0,none⟩ (.int .i64 k)).setCell ⟨f,1,none⟩ (.int .u64 y)).heap[f]? = some (.cells #[.int .i64 k,.int .u64 y] 31 (0,0))∧((w4.setCell ⟨f,0,none⟩ (.int .i64 k)).setCell ⟨f,1,none⟩ (.int .u64 y)).heap[w.heap.size + 1]? = some (.cells r tr (0,0)) ∧
    StMout T w ((w4.setCell ⟨f,0,none⟩ (.int .i64 k)).setCell ⟨f,1,none⟩ (.int .u64 y)) sb n L M st mo ba en a m x k y:=by
  have f2:Fr (only f) w4 ((w4.setCell ⟨f,0,none⟩ (.int .i64 k)).setCell ⟨f,1,none⟩ (.int .u64 y)):=(Fr.set (S:=only f) (p:=⟨f,0,none⟩) rfl _).trans (Fr.set (S:=only f) (p:=⟨f,1,none⟩) rfl _)
  refine ⟨set2 _ _ hF,f2.at_ hQ hne,?_⟩
  rcases hs with ⟨rfl,h1,h2,h3,h4,h5⟩ | ⟨rfl,rfl,h1,st',h2,hg,h3⟩
  · exact .inl ⟨rfl,⟨h1,h2,h3,h4⟩,(((Fr.zP (S:=fun _=>False) (kV.trans h5)).zH (p:=⟨f,0,none⟩) hf _).zH (p:=⟨f,1,none⟩) hf _).bl (fun _ _ e=>e)⟩
  · refine .inr ⟨rfl,rfl,h1,⟨st',V.heap.size,zFI hg,h2.kept f2 (fun b e e2=>e.2 (by have e3:b = f:=e2;omega)),hlt⟩,?_⟩
    exact ((((Fr.zP kV).trans h3.zBW).zH (p:=⟨f,0,none⟩) hf _).zH (p:=⟨f,1,none⟩) hf _)
theorem haStore_any (h:StAt w b pc xs ha hn) (hm:MS T w sb n L M st mo ba en) (hTb:¬ T b) (hn0:n<80000000) (hT:∀ b,w.heap.size≤b→T b) (i:Td.Ins) (ho:18≤i.op∧i.op≤21) (hr:0≤i.r1∧i.r1<32) (hr2:0≤i.r2∧i.r2<32) :
  Calls prog 85 #[zB b,zB sb,.agg i.cells] w (zGP T w b sb n pc xs ha hn L M st mo ba en i):=by
 have K0:=hid ((Bl.new w (.cells i.cells 38)).alloc (.cells #[.int .i64 0,.int .i64 0,.int .u64 0] 33));obtain ⟨b0,b1⟩:=zBf w (.cells i.cells 38) (.cells #[.int .i64 0,.int .i64 0,.int .u64 0] 33);obtain ⟨m,hmm⟩:∃ m:Nat,m=swid i.op:=⟨_,rfl⟩;have hmw:=zJe i.op;obtain ⟨a,haa⟩:=zze (show 0≤adr xs i from (zAK _).1);have hab:a<18446744073709551616:=by have:=(zAK (rx xs i.r1+IntKind.u64.wrap i.im)).2;unfold adr at haa;omega
 have CB:=hid (fun W=>storeBytes_any i.op W ho);have CA:=hid (fun W (k:Bl w W)=>zDv (h.bl k) i hr);have CF:=hid (fun k x w=>zGD k x w);obtain ⟨x,hx⟩:∃ x,x=rx xs i.r2:=⟨_,rfl⟩;have CS:=hid (fun W (k:Bl w W)=>zEW (hm.gap k w.heap.size W.heap.size (zzr _)) a m x hab (by rw [hmm];exact hmw) hn0 (zCA hT w.heap.size k.size));have H:=hid h;clear h;have HT:=hid hT;clear hT;have HTB:=hid hTb;clear hTb;unfold zGP;rw [haa,← hmm];simp only [haa] at CA;rw [← hmm] at CB;obtain ⟨s,hs⟩:=zze hr2.1;rw [hs] at hx hr2;have hs':s<32:=by omega
 clear hm hmm hmw haa hab hn0;have B0:=hid b0;clear b0;have B1:=hid b1;clear b1;obtain ⟨op,rd,r1,r2,im,od,sz⟩:=i;simp only at ho hr hr2 hs CB CA;subst hs;rw [← hx];simp only [Int.toNat_natCast];have HX:=hid hx;clear hx;unfold zB zAD zt at *;go_enter func85,ntmps85;go_upto_region 1 with (fail);generalize (w.alloc (.cells (Td.I7 op rd r1 s im od sz) 38)).alloc (.cells #[.int .i64 0,.int .i64 0,.int .u64 0] 33)=W at *;have c8:=(H.out.bl K0.out).rx s hs';rw [← HX.out] at c8;obtain ⟨d0,d1,d2,d3,d4,d5,d6⟩:=zI B0.out;have HS:=hid (And.intro d0 (And.intro d1 (And.intro d2 (And.intro d3 (And.intro d4 (And.intro d5 (And.intro d6 c8)))))));clear d0 d1 d2 d3 d4 d5 d6 c8
 go_region_held3 (fun w'=>w'.cell? ⟨w.heap.size,0,none⟩=some (.int .i64 op)∧w'.cell? ⟨w.heap.size,1,none⟩=some (.int .i64 rd)∧w'.cell? ⟨w.heap.size,2,none⟩=some (.int .i64 r1)∧w'.cell? ⟨w.heap.size,3,none⟩=some (.int .i64 s)∧w'.cell? ⟨w.heap.size,4,none⟩=some (.int .i64 im)∧w'.cell? ⟨w.heap.size,5,none⟩=some (.int .i64 od)∧w'.cell? ⟨w.heap.size,6,none⟩=some (.int .i64 sz)∧w'.cell? ⟨b,1+s,none⟩=some (.int .u64 x)) (first|assumption|exact HS.out|exact zGB HS.out ((Bl.refl W).drewN 1)|exact zGB (by assumption) (Bl.new _ _)|(refine keepT8 (by assumption) ?_ ?_<;>(have h1:=zG P1.out;have h2:=zG B1.out;have h3:=H.out.lt;omega))) (first
  | (go_at_call 79;with_reducible refine (CA.out W.drew K0.out.drew).mono ?_;rintro e w3 ⟨rfl,k3⟩;have hkk:=zGB (zGB HS.out (Bl.refl W).drew) k3;have P1:=hid (k3.at_ (zU B1.out));have K3:=hid (K0.out.drew.trans k3))
  | (go_at_call 79;with_reducible refine (CA.out (W.alloc (.cells #[.int .i64 0,.int .u64 0] 31)).drew (K0.out.alloc _).drew).mono ?_;rintro e w3 ⟨rfl,k3⟩;have hkk:=zGB (zGB HS.out (Bl.new W (.cells #[.int .i64 0,.int .u64 0] 31)).drew) k3;have P1:=hid (k3.at_ (zU ((Bl.new W (.cells #[.int .i64 0,.int .u64 0] 31)).at_ B1.out)));have FB:=hid (k3.at_ (zU (zzn W (.cells #[.int .i64 0,.int .u64 0] 31))));have K3:=hid ((K0.out.alloc _).drew.trans k3))
  | (go_at_call 131;with_reducible refine (CB.out _).mono ?_;rintro e w3' ⟨rfl,rfl⟩)
  | (go_at_call 130;with_reducible refine (CS.out (w3.alloc (.cells #[.int .i64 0,.int .u64 0] 31)) (K3.out.alloc _)).mono ?_;rintro e w4 hh;unfold zDX at hh;obtain ⟨k,y,rfl,hs⟩:=hh;have FR:=hid (zFb hs);have hkk3:=zGB hkk (Bl.new w3 (.cells #[.int .i64 0,.int .u64 0] 31));have hkk2:=zKQ hkk3 FR.out (zAS (World.block_lt_of_cell? _ _ hkk3.1) (zzr _)) (zAu HTB.out);have Q1:=hid (FR.out.at_ ((Bl.new w3 (.cells #[.int .i64 0,.int .u64 0] 31)).at_ P1.out) (zAS (zG ((Bl.new w3 (.cells #[.int .i64 0,.int .u64 0] 31)).at_ P1.out)) (Nat.le_succ _)));have FQ:=hid (FR.out.at_ (zzn w3 (.cells #[.int .i64 0,.int .u64 0] 31)) (zAS (zG (zzn w3 (.cells #[.int .i64 0,.int .u64 0] 31))) (K3.out.size)));obtain ⟨c0,c1,g0,g1⟩:=row2 FQ.out;(try unfold zt))
  | (go_at_call 130;with_reducible refine (CS.out w3 K3.out).mono ?_;rintro e w4 hh;unfold zDX at hh;obtain ⟨k,y,rfl,hs⟩:=hh;have FR:=hid (zFb hs);have hkk2:=zKQ hkk FR.out (zAS (World.block_lt_of_cell? w3 _ hkk.1) (zzr _)) (zAu HTB.out);have Q1:=hid (FR.out.at_ P1.out (zAS (zG P1.out) (Nat.le_succ _)));have FQ:=hid (FR.out.at_ FB.out (zAS (zG FB.out) (K0.out.size)));obtain ⟨c0,c1,g0,g1⟩:=row2 FQ.out;(try unfold zt))
  | (go_at_call 130;with_reducible refine (CS.out w3 K3.out).mono ?_;rintro e w4 hh;unfold zDX at hh;obtain ⟨k,y,rfl,hs⟩:=hh;have FR:=hid (zFb hs);have hkk2:=zKQ hkk FR.out (zAS (World.block_lt_of_cell? w3 _ hkk.1) (zzr _)) (zAu HTB.out);have Q1:=hid (FR.out.at_ P1.out (zAS (zG P1.out) (Nat.le_succ _)));(try unfold zt)))
 ·have hz:=storeM_finA K3.out hs Q1.out (zG P1.out);obtain ⟨z1,z2,z3⟩:=hz;generalize w4.alloc (.cells #[.int .i64 k,.int .u64 y] 31)=Z at *;clear hkk CA CB CS HS FR Q1 hkk2 P1 K3;have Z2:=hid z2;clear z2;obtain ⟨c0,c1,g0,g1⟩:=row2 z1;have hfb:=zG Z2.out;rcases z3 with ⟨rfl,hf,k4⟩|⟨rfl,rfl,hc,hms,hfr⟩
  ·have HF:=hid hf;clear hf;have K4:=hid k4;clear k4;(try simp only [Exit.inBlock,Exit.then])
   go_wp2_with fail;with_reducible refine (CF.out 2 y _).mono ?_
   rintro e w5 ⟨rfl,k5⟩;have R1:=hid (k5.at_ Z2.out);have K5:=hid (K4.out.trans k5);clear k5;obtain ⟨d0,d1,d2⟩:=zD R1.out;have z0:=free_at R1.out;go_wp2_with fail;refine zzb (Td.zAk rfl _ _ (w.heap.size+1) rfl (set3 (.int .i64 4) (.int .i64 2) (.int .u64 y) R1.out) rfl) rfl ?_;exact Or.inl ⟨y,HF.out,rfl,((((Fr.zP (S:=fun _=>False) K5.out).zH (p:=⟨w.heap.size+1,0,none⟩) (by simp) _).zH (p:=⟨w.heap.size+1,1,none⟩) (by simp) _).zH (p:=⟨w.heap.size+1,2,none⟩) (by simp) _).bl (fun _ _ e=>e)⟩
  ·have HC:=hid hc;clear hc;have HMS:=hid hms;clear hms;have HFR:=hid hfr;clear hfr;obtain ⟨d0,d1,d2⟩:=zD Z2.out;have z0:=free_at Z2.out;go_wp2_with fail;refine zzb (Td.zAk rfl _ _ (w.heap.size+1) rfl (set3 (.int .i64 0) (.int .i64 0) (.int .u64 0) Z2.out) rfl) rfl ?_;obtain ⟨st',hi,hg,q1,q2⟩:=HMS.out;refine Or.inr ⟨HC.out,rfl,⟨st',hg,(q1.kept (((Fr.set (S:=only (w.heap.size+1)) (p:=⟨w.heap.size+1,0,none⟩) rfl _).trans (Fr.set (S:=only (w.heap.size+1)) (p:=⟨w.heap.size+1,1,none⟩) rfl _)).trans (Fr.set (S:=only (w.heap.size+1)) (p:=⟨w.heap.size+1,2,none⟩) rfl _)) (fun b e e2=>e.2 (by have e3:b=w.heap.size+1:=e2;omega))).zBW⟩,?_⟩;exact ((HFR.out.zH (p:=⟨w.heap.size+1,0,none⟩) (by simp) _).zH (p:=⟨w.heap.size+1,1,none⟩) (by simp) _).zH (p:=⟨w.heap.size+1,2,none⟩) (by simp) _
 ·have hz:=zDi (K3.out.alloc (.cells #[.int .i64 0,.int .u64 0] 31)) hs FQ.out Q1.out K3.out.size (zG (zzn w3 (.cells #[.int .i64 0,.int .u64 0] 31))) (by have:=zG P1.out;omega) (by have:=zG ((Bl.new w3 (.cells #[.int .i64 0,.int .u64 0] 31)).at_ P1.out);omega);obtain ⟨z1,z2,z3⟩:=hz;generalize (w4.setCell ⟨w3.heap.size,0,none⟩ (.int .i64 k)).setCell ⟨w3.heap.size,1,none⟩ (.int .u64 y)=Z at *;clear hkk CA CB CS HS FR Q1 hkk2 P1 K3;have Z2:=hid z2;clear z2;obtain ⟨c0,c1,g0,g1⟩:=row2 z1;have hfb:=zG Z2.out;rcases z3 with ⟨rfl,hf,k4⟩|⟨rfl,rfl,hc,hms,hfr⟩
  ·have HF:=hid hf;clear hf;have K4:=hid k4;clear k4;(try simp only [Exit.inBlock,Exit.then])
   go_wp2_with fail;with_reducible refine (CF.out 2 y _).mono ?_
   rintro e w5 ⟨rfl,k5⟩;have R1:=hid (k5.at_ Z2.out);have K5:=hid (K4.out.trans k5);clear k5;obtain ⟨d0,d1,d2⟩:=zD R1.out;have z0:=free_at R1.out;go_wp2_with fail;refine zzb (Td.zAk rfl _ _ (w.heap.size+1) rfl (set3 (.int .i64 4) (.int .i64 2) (.int .u64 y) R1.out) rfl) rfl ?_;exact Or.inl ⟨y,HF.out,rfl,((((Fr.zP (S:=fun _=>False) K5.out).zH (p:=⟨w.heap.size+1,0,none⟩) (by simp) _).zH (p:=⟨w.heap.size+1,1,none⟩) (by simp) _).zH (p:=⟨w.heap.size+1,2,none⟩) (by simp) _).bl (fun _ _ e=>e)⟩
  ·have HC:=hid hc;clear hc;have HMS:=hid hms;clear hms;have HFR:=hid hfr;clear hfr;obtain ⟨d0,d1,d2⟩:=zD Z2.out;have z0:=free_at Z2.out;go_wp2_with fail;refine zzb (Td.zAk rfl _ _ (w.heap.size+1) rfl (set3 (.int .i64 0) (.int .i64 0) (.int .u64 0) Z2.out) rfl) rfl ?_;obtain ⟨st',hi,hg,q1,q2⟩:=HMS.out;refine Or.inr ⟨HC.out,rfl,⟨st',hg,(q1.kept (((Fr.set (S:=only (w.heap.size+1)) (p:=⟨w.heap.size+1,0,none⟩) rfl _).trans (Fr.set (S:=only (w.heap.size+1)) (p:=⟨w.heap.size+1,1,none⟩) rfl _)).trans (Fr.set (S:=only (w.heap.size+1)) (p:=⟨w.heap.size+1,2,none⟩) rfl _)) (fun b e e2=>e.2 (by have e3:b=w.heap.size+1:=e2;omega))).zBW⟩,?_⟩;exact ((HFR.out.zH (p:=⟨w.heap.size+1,0,none⟩) (by simp) _).zH (p:=⟨w.heap.size+1,1,none⟩) (by simp) _).zH (p:=⟨w.heap.size+1,2,none⟩) (by simp) _
 ·have hz:=zDi (K3.out.alloc (.cells #[.int .i64 0,.int .u64 0] 31)) hs FQ.out Q1.out K3.out.size (zG (zzn w3 (.cells #[.int .i64 0,.int .u64 0] 31))) (by have:=zG P1.out;omega) (by have:=zG ((Bl.new w3 (.cells #[.int .i64 0,.int .u64 0] 31)).at_ P1.out);omega);obtain ⟨z1,z2,z3⟩:=hz;generalize (w4.setCell ⟨w3.heap.size,0,none⟩ (.int .i64 k)).setCell ⟨w3.heap.size,1,none⟩ (.int .u64 y)=Z at *;clear hkk CA CB CS HS FR Q1 hkk2 P1 K3;have Z2:=hid z2;clear z2;obtain ⟨c0,c1,g0,g1⟩:=row2 z1;have hfb:=zG Z2.out;rcases z3 with ⟨rfl,hf,k4⟩|⟨rfl,rfl,hc,hms,hfr⟩
  ·have HF:=hid hf;clear hf;have K4:=hid k4;clear k4;(try simp only [Exit.inBlock,Exit.then])
   go_wp2_with fail;with_reducible refine (CF.out 2 y _).mono ?_
   rintro e w5 ⟨rfl,k5⟩;have R1:=hid (k5.at_ Z2.out);have K5:=hid (K4.out.trans k5);clear k5;obtain ⟨d0,d1,d2⟩:=zD R1.out;have z0:=free_at R1.out;go_wp2_with fail;refine zzb (Td.zAk rfl _ _ (w.heap.size+1) rfl (set3 (.int .i64 4) (.int .i64 2) (.int .u64 y) R1.out) rfl) rfl ?_;exact Or.inl ⟨y,HF.out,rfl,((((Fr.zP (S:=fun _=>False) K5.out).zH (p:=⟨w.heap.size+1,0,none⟩) (by simp) _).zH (p:=⟨w.heap.size+1,1,none⟩) (by simp) _).zH (p:=⟨w.heap.size+1,2,none⟩) (by simp) _).bl (fun _ _ e=>e)⟩
  ·have HC:=hid hc;clear hc;have HMS:=hid hms;clear hms;have HFR:=hid hfr;clear hfr;obtain ⟨d0,d1,d2⟩:=zD Z2.out;have z0:=free_at Z2.out;go_wp2_with fail;refine zzb (Td.zAk rfl _ _ (w.heap.size+1) rfl (set3 (.int .i64 0) (.int .i64 0) (.int .u64 0) Z2.out) rfl) rfl ?_;obtain ⟨st',hi,hg,q1,q2⟩:=HMS.out;refine Or.inr ⟨HC.out,rfl,⟨st',hg,(q1.kept (((Fr.set (S:=only (w.heap.size+1)) (p:=⟨w.heap.size+1,0,none⟩) rfl _).trans (Fr.set (S:=only (w.heap.size+1)) (p:=⟨w.heap.size+1,1,none⟩) rfl _)).trans (Fr.set (S:=only (w.heap.size+1)) (p:=⟨w.heap.size+1,2,none⟩) rfl _)) (fun b e e2=>e.2 (by have e3:b=w.heap.size+1:=e2;omega))).zBW⟩,?_⟩;exact ((HFR.out.zH (p:=⟨w.heap.size+1,0,none⟩) (by simp) _).zH (p:=⟨w.heap.size+1,1,none⟩) (by simp) _).zH (p:=⟨w.heap.size+1,2,none⟩) (by simp) _
 ·have hz:=zDi K3.out hs FQ.out Q1.out K0.out.size (zG FB.out) (by have:=zG B1.out;omega) (zG P1.out);obtain ⟨z1,z2,z3⟩:=hz;generalize (w4.setCell ⟨W.heap.size,0,none⟩ (.int .i64 k)).setCell ⟨W.heap.size,1,none⟩ (.int .u64 y)=Z at *;clear hkk CA CB CS HS FR Q1 hkk2 P1 K3;have Z2:=hid z2;clear z2;obtain ⟨c0,c1,g0,g1⟩:=row2 z1;have hfb:=zG Z2.out;rcases z3 with ⟨rfl,hf,k4⟩|⟨rfl,rfl,hc,hms,hfr⟩
  ·have HF:=hid hf;clear hf;have K4:=hid k4;clear k4;(try simp only [Exit.inBlock,Exit.then])
   go_wp2_with fail;with_reducible refine (CF.out 2 y _).mono ?_
   rintro e w5 ⟨rfl,k5⟩;have R1:=hid (k5.at_ Z2.out);have K5:=hid (K4.out.trans k5);clear k5;obtain ⟨d0,d1,d2⟩:=zD R1.out;have z0:=free_at R1.out;go_wp2_with fail;refine zzb (Td.zAk rfl _ _ (w.heap.size+1) rfl (set3 (.int .i64 4) (.int .i64 2) (.int .u64 y) R1.out) rfl) rfl ?_;exact Or.inl ⟨y,HF.out,rfl,((((Fr.zP (S:=fun _=>False) K5.out).zH (p:=⟨w.heap.size+1,0,none⟩) (by simp) _).zH (p:=⟨w.heap.size+1,1,none⟩) (by simp) _).zH (p:=⟨w.heap.size+1,2,none⟩) (by simp) _).bl (fun _ _ e=>e)⟩
  ·have HC:=hid hc;clear hc;have HMS:=hid hms;clear hms;have HFR:=hid hfr;clear hfr;obtain ⟨d0,d1,d2⟩:=zD Z2.out;have z0:=free_at Z2.out;go_wp2_with fail;refine zzb (Td.zAk rfl _ _ (w.heap.size+1) rfl (set3 (.int .i64 0) (.int .i64 0) (.int .u64 0) Z2.out) rfl) rfl ?_;obtain ⟨st',hi,hg,q1,q2⟩:=HMS.out;refine Or.inr ⟨HC.out,rfl,⟨st',hg,(q1.kept (((Fr.set (S:=only (w.heap.size+1)) (p:=⟨w.heap.size+1,0,none⟩) rfl _).trans (Fr.set (S:=only (w.heap.size+1)) (p:=⟨w.heap.size+1,1,none⟩) rfl _)).trans (Fr.set (S:=only (w.heap.size+1)) (p:=⟨w.heap.size+1,2,none⟩) rfl _)) (fun b e e2=>e.2 (by have e3:b=w.heap.size+1:=e2;omega))).zBW⟩,?_⟩;exact ((HFR.out.zH (p:=⟨w.heap.size+1,0,none⟩) (by simp) _).zH (p:=⟨w.heap.size+1,1,none⟩) (by simp) _).zH (p:=⟨w.heap.size+1,2,none⟩) (by simp) _
end
end Go.Proofs.YtlhpodholnfppaaGreatDoor
