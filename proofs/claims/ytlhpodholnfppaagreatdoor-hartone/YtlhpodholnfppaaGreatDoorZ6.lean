/-
  Part of the proof.
-/
import Derived.Test.YtlhpodholnfppaaGreatDoorZ5
import Derived.ProofKit
import Derived.LaidMore
import Derived.OpenShut
import Derived.Stop.Joined
import Derived.Stop.LaidErr
import Derived.Lib.LaidTab
import Derived.Deep.Fields
set_option linter.unusedVariables false
set_option linter.unusedSimpArgs false
set_option maxHeartbeats 16000000
set_option maxRecDepth 100000
set_option linter.defProp false
open Go.Lib (hid)
namespace Go.Proofs.YtlhpodholnfppaaGreatDoor.Td
open Go.Proofs.Tryz
open Go.RowKit
theorem or64 (a b:Nat) (ha:a<9223372036854775808) (hb:b<9223372036854775808):bits .or .i64 (a:Int) (b:Int)=((a ||| b:Nat):Int):=by
 have hx:a ||| b<2^63:=Nat.or_lt_two_pow (by omega) (by omega);show IntKind.i64.wrap ((BitVec.ofInt 64 (a:Int) ||| BitVec.ofInt 64 (b:Int)).toNat:Int)=_;rw [BitVec.toNat_or,ofInt_u64 a (by omega),ofInt_u64 b (by omega)];exact IntWalk.i64_in _ (by omega)
theorem and64 (a b:Nat) (ha:a<9223372036854775808) (hb:b<9223372036854775808):bits .and .i64 (a:Int) (b:Int)=((a &&& b:Nat):Int):=by
 have hx:a &&& b<2^63:=Nat.and_lt_two_pow _ (by omega);show IntKind.i64.wrap ((BitVec.ofInt 64 (a:Int) &&& BitVec.ofInt 64 (b:Int)).toNat:Int)=_;rw [BitVec.toNat_and,ofInt_u64 a (by omega),ofInt_u64 b (by omega)];exact IntWalk.i64_in _ (by omega)
theorem zw (k a b c:Nat) (ha:a%2^k=0) (hb:b<2^k) (hc:a+b=c) (hl:c<65536):bits .or .i64 (a:Int) (b:Int)=(c:Int):=by
 rw [or64 a b (by omega) (by omega),nat_join k a b ha hb,hc]
theorem wi (t:Nat) (h:t<9223372036854775808):wrap64 (t:Int)=(t:Int):=by unfold wrap64;omega
theorem wm (t:Nat) (h:0<t) (h2:t≤2^16):wrap64 (wrap64 (t:Int) - 1)=((t - 1:Nat):Int):=by
 have h3:t≤65536:=h2;clear h2;unfold wrap64;omega
theorem bits_any (s hi lo k:Nat) (w:World) (hs:s<65536) (h1:lo≤hi) (h2:hi≤15) (h3:k≤12) :
  Calls prog 190 #[.int .u16 s,.int .i64 hi,.int .i64 lo,.int .i64 k] w fun e w'=>e=.returned (.int .i64 ((pc s lo (hi+1 - lo)*2^k:Nat):Int))∧∃ q,w'=w.drewN q:=by
 obtain ⟨m,hm⟩:∃ m:Nat,(hi:Int)=(lo:Int)+m - 1:=⟨hi+1 - lo,by omega⟩;obtain rfl:hi=lo+m - 1:=by omega
 have hm1:1≤m:=by omega
 have h0:(0:Int)≤(lo:Int):=by omega
 have h4:(0:Int)≤(k:Int):=by omega
 have hm16:m≤16:=by omega
 go_enter func190,ntmps190;go_wp2_with fail;go_quiet (fail)
 go_wp2;go_ret;refine ⟨zm ?_,_,rfl⟩;rw [show lo+m - 1+1 - lo=m by omega,show lo+m - 1 - lo+1=m by omega];have hp:0<2^m:=Nat.two_pow_pos m;have hp2:2^m≤65536:=Nat.pow_le_pow_right (by decide) hm16;have hk2:2^k≤4096:=Nat.pow_le_pow_right (by decide) h3;have e0:(2:Int)^m=((2^m:Nat):Int):=by simp
 have ek:(2:Int)^k=((2^k:Nat):Int):=by simp
 have e2:(s:Int)/2^lo=((s/2^lo:Nat):Int):=by simp
 have hd:s/2^lo<65536:=Nat.lt_of_le_of_lt (Nat.div_le_self _ _) hs;rw [e0,e2,ek];have w1:wrap64 ((s/2^lo:Nat):Int)=((s/2^lo:Nat):Int):=wi _ (Nat.lt_trans hd (by decide));have w2:wrap64 (wrap64 ((2^m:Nat):Int) - 1)=((2^m - 1:Nat):Int):=wm _ hp hp2;have hl:=zF s lo m;rw [w1,w2,and64 _ _ (Nat.lt_trans hd (by decide)) (Nat.lt_of_le_of_lt (Nat.sub_le _ _) (Nat.lt_of_le_of_lt hp2 (by decide))),Nat.and_two_pow_sub_one_eq_mod];show wrap64 (((pc s lo m:Nat):Int)*((2^k:Nat):Int))=_;have hb:pc s lo m*2^k<65536*4096:=Nat.mul_lt_mul_of_lt_of_le (Nat.lt_of_lt_of_le hl hp2) hk2 (by decide);rw [← Int.natCast_mul];exact wi _ (Nat.lt_trans hb (by decide))
theorem zL (s hi lo k v:Nat) (hs:s<65536) (h1:lo≤hi) (h2:hi≤15) (h3:k≤12) (hv:pc s lo (hi+1 - lo)*2^k=v) (w:World) :
  Calls prog 190 #[.int .u16 s,.int .i64 hi,.int .i64 lo,.int .i64 k] w fun e w'=>e=.returned (.int .i64 (v:Int))∧∃ q,w'=w.drewN q:=by
 rw [← hv];exact bits_any s hi lo k w hs h1 h2 h3
theorem zFJ (s v:Nat) (w:World) (hs:s<65536) (hv:pc s 0 2=v):Calls prog 169 #[.int .u16 s] w fun e w'=>e=.returned (.int .i64 (v:Int))∧∃ q,w'=w.drewN q:=by
 have hb:=zF s 0 2;rw [hv] at hb;have C:=hid (zL s 1 0 0 v hs (by decide) (by decide) (by decide) (by rw [← hv];simp));clear hv hs;go_enter func169,ntmps169;go_wp2_with fail;refine (C.out _).mono ?_;rintro e w1 ⟨rfl,q,rfl⟩;go_wp2;go_ret;exact ⟨rfl,_,rfl⟩
theorem zAZ (s v:Nat) (w:World) (hs:s<65536) (hv:pc s 13 3=v):Calls prog 191 #[.int .u16 s] w fun e w'=>e=.returned (.int .i64 (v:Int))∧∃ q,w'=w.drewN q:=by
 have hb:=zF s 13 3;rw [hv] at hb;have C:=hid (zL s 15 13 0 v hs (by decide) (by decide) (by decide) (by rw [← hv];simp));clear hv hs;go_enter func191,ntmps191;go_wp2_with fail;refine (C.out _).mono ?_;rintro e w1 ⟨rfl,q,rfl⟩;go_wp2;go_ret;exact ⟨rfl,_,rfl⟩
theorem zDm (s v:Nat) (w:World) (hs:s<65536) (hv:pc s 7 5=v):Calls prog 222 #[.int .u16 s] w fun e w'=>e=.returned (.int .i64 (v:Int))∧∃ q,w'=w.drewN q:=by
 have hb:=zF s 7 5;rw [hv] at hb;have C:=hid (zL s 11 7 0 v hs (by decide) (by decide) (by decide) (by rw [← hv];simp));clear hv hs;go_enter func222,ntmps222;go_wp2_with fail;refine (C.out _).mono ?_;rintro e w1 ⟨rfl,q,rfl⟩;go_wp2;go_ret;exact ⟨rfl,_,rfl⟩
theorem zFh (s v:Nat) (w:World) (hs:s<65536) (hv:pc s 2 5=v):Calls prog 230 #[.int .u16 s] w fun e w'=>e=.returned (.int .i64 (v:Int))∧∃ q,w'=w.drewN q:=by
 have hb:=zF s 2 5;rw [hv] at hb;have C:=hid (zL s 6 2 0 v hs (by decide) (by decide) (by decide) (by rw [← hv];simp));clear hv hs;go_enter func230,ntmps230;go_wp2_with fail;refine (C.out _).mono ?_;rintro e w1 ⟨rfl,q,rfl⟩;go_wp2;go_ret;exact ⟨rfl,_,rfl⟩
theorem zES (s v:Nat) (w:World) (hs:s<65536) (hv:pc s 2 3=v):Calls prog 217 #[.int .u16 s] w fun e w'=>e=.returned (.int .i64 ((v:Nat)+8:Int))∧∃ q,w'=w.drewN q:=by
 have hb:=zF s 2 3;rw [hv] at hb;have C:=hid (zL s 4 2 0 v hs (by decide) (by decide) (by decide) (by rw [← hv];simp));clear hv hs;go_enter func217,ntmps217;go_wp2_with fail;refine (C.out _).mono ?_;rintro e w1 ⟨rfl,q,rfl⟩;go_wp2;go_ret;exact ⟨rfl,_,rfl⟩
theorem zAq (s v:Nat) (w:World) (hs:s<65536) (hv:pc s 7 3=v):Calls prog 219 #[.int .u16 s] w fun e w'=>e=.returned (.int .i64 ((v:Nat)+8:Int))∧∃ q,w'=w.drewN q:=by
 have hb:=zF s 7 3;rw [hv] at hb;have C:=hid (zL s 9 7 0 v hs (by decide) (by decide) (by decide) (by rw [← hv];simp));clear hv hs;go_enter func219,ntmps219;go_wp2_with fail;refine (C.out _).mono ?_;rintro e w1 ⟨rfl,q,rfl⟩;go_wp2;go_ret;exact ⟨rfl,_,rfl⟩
theorem zFf (s v:Nat) (w:World) (hs:s<65536) (hv:pc s 2 3=v):Calls prog 220 #[.int .u16 s] w fun e w'=>e=.returned (.int .i64 ((v:Nat)+8:Int))∧∃ q,w'=w.drewN q:=by
 have C:=hid (fun w=>zES s v w hs hv);clear hv hs;go_enter func220,ntmps220;go_wp2_with fail;refine (C.out _).mono ?_;rintro e w1 ⟨rfl,q,rfl⟩;go_wp2;go_ret;exact ⟨rfl,_,rfl⟩
theorem zGa (s:Nat) (w:World) (hs:s<65536) (hv:pc s 15 1=1):Calls prog 218 #[.int .u16 s] w fun e w'=>e=.returned (.bool true)∧∃ q,w'=w.drewN q:=by
 have C:=hid (zL s 15 15 0 1 hs (by decide) (by decide) (by decide) (by show pc s 15 1*2^0=1;rw [hv]));clear hv hs;go_enter func218,ntmps218;go_wp2_with fail;refine (C.out _).mono ?_;rintro e w1 ⟨rfl,q,rfl⟩;go_wp2;go_ret;exact ⟨rfl,_,rfl⟩
theorem zFa (s:Nat) (w:World) (hs:s<65536) (hv:pc s 15 1=0):Calls prog 218 #[.int .u16 s] w fun e w'=>e=.returned (.bool false)∧∃ q,w'=w.drewN q:=by
 have C:=hid (zL s 15 15 0 0 hs (by decide) (by decide) (by decide) (by show pc s 15 1*2^0=0;rw [hv]));clear hv hs;go_enter func218,ntmps218;go_wp2_with fail;refine (C.out _).mono ?_;rintro e w1 ⟨rfl,q,rfl⟩;go_wp2;go_ret;exact ⟨rfl,_,rfl⟩
theorem zEe (s:Nat) (w:World) (hs:s<65536) (hv:pc s 13 1=1):Calls prog 235 #[.int .u16 s] w fun e w'=>e=.returned (.bool true)∧∃ q,w'=w.drewN q:=by
 have C:=hid (zL s 13 13 0 1 hs (by decide) (by decide) (by decide) (by show pc s 13 1*2^0=1;rw [hv]));clear hv hs;go_enter func235,ntmps235;go_wp2_with fail;refine (C.out _).mono ?_;rintro e w1 ⟨rfl,q,rfl⟩;go_wp2;go_ret;exact ⟨rfl,_,rfl⟩
theorem zGF (s:Nat) (w:World) (hs:s<65536) (hv:pc s 13 1=0):Calls prog 235 #[.int .u16 s] w fun e w'=>e=.returned (.bool false)∧∃ q,w'=w.drewN q:=by
 have C:=hid (zL s 13 13 0 0 hs (by decide) (by decide) (by decide) (by show pc s 13 1*2^0=0;rw [hv]));clear hv hs;go_enter func235,ntmps235;go_wp2_with fail;refine (C.out _).mono ?_;rintro e w1 ⟨rfl,q,rfl⟩;go_wp2;go_ret;exact ⟨rfl,_,rfl⟩
theorem zCu (n:Int) (b:Nat) (w:World) (h1:(1:Int)≤b) (h2:(b:Int)≤64) :
  Calls prog 236 #[.int .i64 n,.int .i64 b] w fun e w'=>e=.returned (.int .i64 (low n b))∧w=w':=by
 go_enter func236,ntmps236;go_wp2_with fail;refine (zJi _ b _ h1 h2).mono ?_;rintro e w' ⟨rfl,rfl⟩;go_wp2;go_ret;exact ⟨zm (zJd n b (by omega) (by omega)),rfl⟩
def zN (s:Nat):Nat:=pc s 12 1*32+pc s 2 5*1
def zCH (s:Nat):Nat:=pc s 12 1*4+pc s 5 2*1
def zAa (s:Nat):Nat:=pc s 7 4*64+pc s 11 2*16+pc s 5 1*8+pc s 6 1*4
def zAN (s:Nat):Nat:=pc s 12 1*512+pc s 3 2*128+pc s 5 1*64+pc s 2 1*32+pc s 6 1*16
def zCr (s:Nat):Nat:=pc s 12 1*2048+pc s 8 1*1024+pc s 9 2*256+pc s 6 1*128+pc s 7 1*64+pc s 2 1*32+pc s 11 1*16+pc s 3 3*2
def zz (s:Nat):Nat:=pc s 12 1*256+pc s 5 2*64+pc s 2 1*32+pc s 10 2*8+pc s 3 2*2
def zBL (s:Nat):Nat:=pc s 5 1*64+pc s 10 3*8+pc s 6 1*4
def zAH (s:Nat):Nat:=pc s 5 2*64+pc s 10 3*8
def zDs (s:Nat):Nat:=pc s 2 2*64+pc s 12 1*32+pc s 4 3*4
def zDt (s:Nat):Nat:=pc s 2 3*64+pc s 12 1*32+pc s 5 2*8
def zCI (s:Nat):Nat:=pc s 7 2*64+pc s 9 4*4
def zCJ (s:Nat):Nat:=pc s 7 3*64+pc s 10 3*8
theorem zDL (s:Nat) (w:World) (hs:s<65536):Calls prog 228 #[.int .u16 s] w fun e w'=>e=.returned (.int .i64 ((zN s:Nat):Int))∧∃ q,w'=w.drewN q:=by
 obtain ⟨v1,e1⟩:∃ v,pc s 12 1*32=v:=⟨_,rfl⟩;have b1:=zF s 12 1;have C1:=hid (zL s 12 12 5 v1 hs (by decide) (by decide) (by decide) e1);obtain ⟨v2,e2⟩:∃ v,pc s 2 5*1=v:=⟨_,rfl⟩;have b2:=zF s 2 5;have C2:=hid (zL s 6 2 0 v2 hs (by decide) (by decide) (by decide) e2);obtain ⟨x2,fx2⟩:∃ v,v1+v2=v:=⟨_,rfl⟩;have Ox2:=hid (zw 5 v1 v2 x2 (by simp only [Nat.reducePow] at *;omega) (by simp only [Nat.reducePow] at *;omega) fx2 (by simp only [Nat.reducePow] at *;omega));have E:zN s=x2:=by
  unfold zN;rw [e1,e2];clear e1 b1 C1 e2 b2 C2 Ox2;omega
 rw [E];clear E hs e1 b1 e2 b2 fx2;go_enter func228,ntmps228;go_wp2_with fail;refine (C1.out _).mono ?_;rintro e w1 ⟨rfl,q1,rfl⟩;go_wp2_with fail;refine (C2.out _).mono ?_;rintro e w2 ⟨rfl,q2,rfl⟩;go_wp2;go_ret;exact ⟨zm (by rw [Ox2.out]),_,rfl⟩
theorem reckoner_any (s:Nat) (w:World) (hs:s<65536):Calls prog 239 #[.int .u16 s] w fun e w'=>e=.returned (.int .i64 ((zCH s:Nat):Int))∧∃ q,w'=w.drewN q:=by
 obtain ⟨v1,e1⟩:∃ v,pc s 12 1*4=v:=⟨_,rfl⟩;have b1:=zF s 12 1;have C1:=hid (zL s 12 12 2 v1 hs (by decide) (by decide) (by decide) e1);obtain ⟨v2,e2⟩:∃ v,pc s 5 2*1=v:=⟨_,rfl⟩;have b2:=zF s 5 2;have C2:=hid (zL s 6 5 0 v2 hs (by decide) (by decide) (by decide) e2);obtain ⟨x2,fx2⟩:∃ v,v1+v2=v:=⟨_,rfl⟩;have Ox2:=hid (zw 2 v1 v2 x2 (by simp only [Nat.reducePow] at *;omega) (by simp only [Nat.reducePow] at *;omega) fx2 (by simp only [Nat.reducePow] at *;omega));have E:zCH s=x2:=by
  unfold zCH;rw [e1,e2];clear e1 b1 C1 e2 b2 C2 Ox2;omega
 rw [E];clear E hs e1 b1 e2 b2 fx2;go_enter func239,ntmps239;go_wp2_with fail;refine (C1.out _).mono ?_;rintro e w1 ⟨rfl,q1,rfl⟩;go_wp2_with fail;refine (C2.out _).mono ?_;rintro e w2 ⟨rfl,q2,rfl⟩;go_wp2;go_ret;exact ⟨zm (by rw [Ox2.out]),_,rfl⟩
theorem zIJ (s:Nat) (w:World) (hs:s<65536):Calls prog 216 #[.int .u16 s] w fun e w'=>e=.returned (.int .i64 ((zAa s:Nat):Int))∧∃ q,w'=w.drewN q:=by
 obtain ⟨v1,e1⟩:∃ v,pc s 7 4*64=v:=⟨_,rfl⟩;have b1:=zF s 7 4;have C1:=hid (zL s 10 7 6 v1 hs (by decide) (by decide) (by decide) e1);obtain ⟨v2,e2⟩:∃ v,pc s 11 2*16=v:=⟨_,rfl⟩;have b2:=zF s 11 2;have C2:=hid (zL s 12 11 4 v2 hs (by decide) (by decide) (by decide) e2);obtain ⟨v3,e3⟩:∃ v,pc s 5 1*8=v:=⟨_,rfl⟩;have b3:=zF s 5 1;have C3:=hid (zL s 5 5 3 v3 hs (by decide) (by decide) (by decide) e3);obtain ⟨v4,e4⟩:∃ v,pc s 6 1*4=v:=⟨_,rfl⟩;have b4:=zF s 6 1;have C4:=hid (zL s 6 6 2 v4 hs (by decide) (by decide) (by decide) e4);obtain ⟨x2,fx2⟩:∃ v,v1+v2=v:=⟨_,rfl⟩;have Ox2:=hid (zw 6 v1 v2 x2 (by simp only [Nat.reducePow] at *;omega) (by simp only [Nat.reducePow] at *;omega) fx2 (by simp only [Nat.reducePow] at *;omega));obtain ⟨x3,fx3⟩:∃ v,x2+v3=v:=⟨_,rfl⟩;have Ox3:=hid (zw 4 x2 v3 x3 (by simp only [Nat.reducePow] at *;omega) (by simp only [Nat.reducePow] at *;omega) fx3 (by simp only [Nat.reducePow] at *;omega));obtain ⟨x4,fx4⟩:∃ v,x3+v4=v:=⟨_,rfl⟩;have Ox4:=hid (zw 3 x3 v4 x4 (by simp only [Nat.reducePow] at *;omega) (by simp only [Nat.reducePow] at *;omega) fx4 (by simp only [Nat.reducePow] at *;omega));have E:zAa s=x4:=by
  unfold zAa;rw [e1,e2,e3,e4];clear e1 b1 C1 e2 b2 C2 e3 b3 C3 e4 b4 C4 Ox2 Ox3 Ox4;omega
 rw [E];clear E hs e1 b1 e2 b2 e3 b3 e4 b4 fx2 fx3 fx4;go_enter func216,ntmps216;go_wp2_with fail;refine (C1.out _).mono ?_;rintro e w1 ⟨rfl,q1,rfl⟩;go_wp2_with fail;refine (C2.out _).mono ?_;rintro e w2 ⟨rfl,q2,rfl⟩;go_wp2_with fail;refine (C3.out _).mono ?_;rintro e w3 ⟨rfl,q3,rfl⟩;go_wp2_with fail;refine (C4.out _).mono ?_;rintro e w4 ⟨rfl,q4,rfl⟩;go_wp2;go_ret;exact ⟨zm (by rw [Ox2.out,Ox3.out,Ox4.out]),_,rfl⟩
theorem stackMove_any (s:Nat) (w:World) (hs:s<65536):Calls prog 237 #[.int .u16 s] w fun e w'=>e=.returned (.int .i64 (low (zAN s:Nat) 10:Int))∧∃ q,w'=w.drewN q:=by
 obtain ⟨v1,e1⟩:∃ v,pc s 12 1*512=v:=⟨_,rfl⟩;have b1:=zF s 12 1;have C1:=hid (zL s 12 12 9 v1 hs (by decide) (by decide) (by decide) e1);obtain ⟨v2,e2⟩:∃ v,pc s 3 2*128=v:=⟨_,rfl⟩;have b2:=zF s 3 2;have C2:=hid (zL s 4 3 7 v2 hs (by decide) (by decide) (by decide) e2);obtain ⟨v3,e3⟩:∃ v,pc s 5 1*64=v:=⟨_,rfl⟩;have b3:=zF s 5 1;have C3:=hid (zL s 5 5 6 v3 hs (by decide) (by decide) (by decide) e3);obtain ⟨v4,e4⟩:∃ v,pc s 2 1*32=v:=⟨_,rfl⟩;have b4:=zF s 2 1;have C4:=hid (zL s 2 2 5 v4 hs (by decide) (by decide) (by decide) e4);obtain ⟨v5,e5⟩:∃ v,pc s 6 1*16=v:=⟨_,rfl⟩;have b5:=zF s 6 1;have C5:=hid (zL s 6 6 4 v5 hs (by decide) (by decide) (by decide) e5);obtain ⟨x2,fx2⟩:∃ v,v1+v2=v:=⟨_,rfl⟩;have Ox2:=hid (zw 9 v1 v2 x2 (by simp only [Nat.reducePow] at *;omega) (by simp only [Nat.reducePow] at *;omega) fx2 (by simp only [Nat.reducePow] at *;omega));obtain ⟨x3,fx3⟩:∃ v,x2+v3=v:=⟨_,rfl⟩;have Ox3:=hid (zw 7 x2 v3 x3 (by simp only [Nat.reducePow] at *;omega) (by simp only [Nat.reducePow] at *;omega) fx3 (by simp only [Nat.reducePow] at *;omega));obtain ⟨x4,fx4⟩:∃ v,x3+v4=v:=⟨_,rfl⟩;have Ox4:=hid (zw 6 x3 v4 x4 (by simp only [Nat.reducePow] at *;omega) (by simp only [Nat.reducePow] at *;omega) fx4 (by simp only [Nat.reducePow] at *;omega));obtain ⟨x5,fx5⟩:∃ v,x4+v5=v:=⟨_,rfl⟩;have Ox5:=hid (zw 5 x4 v5 x5 (by simp only [Nat.reducePow] at *;omega) (by simp only [Nat.reducePow] at *;omega) fx5 (by simp only [Nat.reducePow] at *;omega));have E:zAN s=x5:=by
  unfold zAN;rw [e1,e2,e3,e4,e5];clear e1 b1 C1 e2 b2 C2 e3 b3 C3 e4 b4 C4 e5 b5 C5 Ox2 Ox3 Ox4 Ox5;omega
 rw [E];obtain ⟨d,ed⟩:∃ d,low (x5:Int) 10=d:=⟨_,rfl⟩;have CS:=hid (fun w=>zCu (x5:Int) 10 w (by decide) (by decide));rw [ed] at CS ⊢;clear ed;clear E hs e1 b1 e2 b2 e3 b3 e4 b4 e5 b5 fx2 fx3 fx4 fx5;go_enter func237,ntmps237;go_wp2_with fail;refine (C1.out _).mono ?_;rintro e w1 ⟨rfl,q1,rfl⟩;go_wp2_with fail;refine (C2.out _).mono ?_;rintro e w2 ⟨rfl,q2,rfl⟩;go_wp2_with fail;refine (C3.out _).mono ?_;rintro e w3 ⟨rfl,q3,rfl⟩;go_wp2_with fail;refine (C4.out _).mono ?_;rintro e w4 ⟨rfl,q4,rfl⟩;go_wp2_with fail;refine (C5.out _).mono ?_;rintro e w5 ⟨rfl,q5,rfl⟩;go_wp2_with fail;rw [Ox2.out,Ox3.out,Ox4.out,Ox5.out];refine (CS.out _).mono ?_;rintro e wz ⟨rfl,rfl⟩;go_wp2;go_ret;exact ⟨rfl,_,rfl⟩
theorem zFF (s:Nat) (w:World) (hs:s<65536):Calls prog 226 #[.int .u16 s] w fun e w'=>e=.returned (.int .i64 (low (zCr s:Nat) 12:Int))∧∃ q,w'=w.drewN q:=by
 obtain ⟨v1,e1⟩:∃ v,pc s 12 1*2048=v:=⟨_,rfl⟩;have b1:=zF s 12 1;have C1:=hid (zL s 12 12 11 v1 hs (by decide) (by decide) (by decide) e1);obtain ⟨v2,e2⟩:∃ v,pc s 8 1*1024=v:=⟨_,rfl⟩;have b2:=zF s 8 1;have C2:=hid (zL s 8 8 10 v2 hs (by decide) (by decide) (by decide) e2);obtain ⟨v3,e3⟩:∃ v,pc s 9 2*256=v:=⟨_,rfl⟩;have b3:=zF s 9 2;have C3:=hid (zL s 10 9 8 v3 hs (by decide) (by decide) (by decide) e3);obtain ⟨v4,e4⟩:∃ v,pc s 6 1*128=v:=⟨_,rfl⟩;have b4:=zF s 6 1;have C4:=hid (zL s 6 6 7 v4 hs (by decide) (by decide) (by decide) e4);obtain ⟨v5,e5⟩:∃ v,pc s 7 1*64=v:=⟨_,rfl⟩;have b5:=zF s 7 1;have C5:=hid (zL s 7 7 6 v5 hs (by decide) (by decide) (by decide) e5);obtain ⟨v6,e6⟩:∃ v,pc s 2 1*32=v:=⟨_,rfl⟩;have b6:=zF s 2 1;have C6:=hid (zL s 2 2 5 v6 hs (by decide) (by decide) (by decide) e6);obtain ⟨v7,e7⟩:∃ v,pc s 11 1*16=v:=⟨_,rfl⟩;have b7:=zF s 11 1;have C7:=hid (zL s 11 11 4 v7 hs (by decide) (by decide) (by decide) e7);obtain ⟨v8,e8⟩:∃ v,pc s 3 3*2=v:=⟨_,rfl⟩;have b8:=zF s 3 3;have C8:=hid (zL s 5 3 1 v8 hs (by decide) (by decide) (by decide) e8);obtain ⟨x2,fx2⟩:∃ v,v1+v2=v:=⟨_,rfl⟩;have Ox2:=hid (zw 11 v1 v2 x2 (by simp only [Nat.reducePow] at *;omega) (by simp only [Nat.reducePow] at *;omega) fx2 (by simp only [Nat.reducePow] at *;omega));obtain ⟨x3,fx3⟩:∃ v,x2+v3=v:=⟨_,rfl⟩;have Ox3:=hid (zw 10 x2 v3 x3 (by simp only [Nat.reducePow] at *;omega) (by simp only [Nat.reducePow] at *;omega) fx3 (by simp only [Nat.reducePow] at *;omega));obtain ⟨x4,fx4⟩:∃ v,x3+v4=v:=⟨_,rfl⟩;have Ox4:=hid (zw 8 x3 v4 x4 (by simp only [Nat.reducePow] at *;omega) (by simp only [Nat.reducePow] at *;omega) fx4 (by simp only [Nat.reducePow] at *;omega));obtain ⟨y2,fy2⟩:∃ v,v5+v6=v:=⟨_,rfl⟩
 have Oy2:=hid (zw 6 v5 v6 y2 (by simp only [Nat.reducePow] at *;omega) (by simp only [Nat.reducePow] at *;omega) fy2 (by simp only [Nat.reducePow] at *;omega));obtain ⟨y3,fy3⟩:∃ v,y2+v7=v:=⟨_,rfl⟩;have Oy3:=hid (zw 5 y2 v7 y3 (by simp only [Nat.reducePow] at *;omega) (by simp only [Nat.reducePow] at *;omega) fy3 (by simp only [Nat.reducePow] at *;omega));obtain ⟨y4,fy4⟩:∃ v,y3+v8=v:=⟨_,rfl⟩;have Oy4:=hid (zw 4 y3 v8 y4 (by simp only [Nat.reducePow] at *;omega) (by simp only [Nat.reducePow] at *;omega) fy4 (by simp only [Nat.reducePow] at *;omega));obtain ⟨z,fz⟩:∃ v,x4+y4=v:=⟨_,rfl⟩;have Oz:=hid (zw 7 x4 y4 z (by simp only [Nat.reducePow] at *;omega) (by simp only [Nat.reducePow] at *;omega) fz (by simp only [Nat.reducePow] at *;omega));have E:zCr s=z:=by
  unfold zCr;rw [e1,e2,e3,e4,e5,e6,e7,e8];clear e1 b1 C1 e2 b2 C2 e3 b3 C3 e4 b4 C4 e5 b5 C5 e6 b6 C6 e7 b7 C7 e8 b8 C8 Ox2 Ox3 Ox4 Oy2 Oy3 Oy4 Oz;omega
 rw [E];obtain ⟨d,ed⟩:∃ d,low (z:Int) 12=d:=⟨_,rfl⟩;have CS:=hid (fun w=>zCu (z:Int) 12 w (by decide) (by decide));rw [ed] at CS ⊢;clear ed;clear E hs e1 b1 e2 b2 e3 b3 e4 b4 e5 b5 e6 b6 e7 b7 e8 b8 fx2 fx3 fx4 fy2 fy3 fy4 fz;go_enter func226,ntmps226;go_wp2_with fail;refine (C1.out _).mono ?_;rintro e w1 ⟨rfl,q1,rfl⟩;go_wp2_with fail;refine (C2.out _).mono ?_;rintro e w2 ⟨rfl,q2,rfl⟩;go_wp2_with fail;refine (C3.out _).mono ?_;rintro e w3 ⟨rfl,q3,rfl⟩;go_wp2_with fail;refine (C4.out _).mono ?_;rintro e w4 ⟨rfl,q4,rfl⟩;go_wp2_with fail;refine (C5.out _).mono ?_;rintro e w5 ⟨rfl,q5,rfl⟩;go_wp2_with fail;refine (C6.out _).mono ?_;rintro e w6 ⟨rfl,q6,rfl⟩;go_wp2_with fail;refine (C7.out _).mono ?_;rintro e w7 ⟨rfl,q7,rfl⟩;go_wp2_with fail;refine (C8.out _).mono ?_;rintro e w8 ⟨rfl,q8,rfl⟩;go_wp2_with fail;rw [Ox2.out,Ox3.out,Ox4.out,Oy2.out,Oy3.out,Oy4.out,Oz.out];refine (CS.out _).mono ?_;rintro e wz ⟨rfl,rfl⟩;go_wp2;go_ret;exact ⟨rfl,_,rfl⟩
theorem zDV (s:Nat) (w:World) (hs:s<65536):Calls prog 227 #[.int .u16 s] w fun e w'=>e=.returned (.int .i64 (low (zz s:Nat) 9:Int))∧∃ q,w'=w.drewN q:=by
 obtain ⟨v1,e1⟩:∃ v,pc s 12 1*256=v:=⟨_,rfl⟩;have b1:=zF s 12 1;have C1:=hid (zL s 12 12 8 v1 hs (by decide) (by decide) (by decide) e1);obtain ⟨v2,e2⟩:∃ v,pc s 5 2*64=v:=⟨_,rfl⟩;have b2:=zF s 5 2;have C2:=hid (zL s 6 5 6 v2 hs (by decide) (by decide) (by decide) e2);obtain ⟨v3,e3⟩:∃ v,pc s 2 1*32=v:=⟨_,rfl⟩;have b3:=zF s 2 1;have C3:=hid (zL s 2 2 5 v3 hs (by decide) (by decide) (by decide) e3);obtain ⟨v4,e4⟩:∃ v,pc s 10 2*8=v:=⟨_,rfl⟩;have b4:=zF s 10 2;have C4:=hid (zL s 11 10 3 v4 hs (by decide) (by decide) (by decide) e4);obtain ⟨v5,e5⟩:∃ v,pc s 3 2*2=v:=⟨_,rfl⟩;have b5:=zF s 3 2;have C5:=hid (zL s 4 3 1 v5 hs (by decide) (by decide) (by decide) e5);obtain ⟨x2,fx2⟩:∃ v,v1+v2=v:=⟨_,rfl⟩;have Ox2:=hid (zw 8 v1 v2 x2 (by simp only [Nat.reducePow] at *;omega) (by simp only [Nat.reducePow] at *;omega) fx2 (by simp only [Nat.reducePow] at *;omega));obtain ⟨x3,fx3⟩:∃ v,x2+v3=v:=⟨_,rfl⟩;have Ox3:=hid (zw 6 x2 v3 x3 (by simp only [Nat.reducePow] at *;omega) (by simp only [Nat.reducePow] at *;omega) fx3 (by simp only [Nat.reducePow] at *;omega));obtain ⟨x4,fx4⟩:∃ v,x3+v4=v:=⟨_,rfl⟩;have Ox4:=hid (zw 5 x3 v4 x4 (by simp only [Nat.reducePow] at *;omega) (by simp only [Nat.reducePow] at *;omega) fx4 (by simp only [Nat.reducePow] at *;omega));obtain ⟨x5,fx5⟩:∃ v,x4+v5=v:=⟨_,rfl⟩;have Ox5:=hid (zw 3 x4 v5 x5 (by simp only [Nat.reducePow] at *;omega) (by simp only [Nat.reducePow] at *;omega) fx5 (by simp only [Nat.reducePow] at *;omega));have E:zz s=x5:=by
  unfold zz;rw [e1,e2,e3,e4,e5];clear e1 b1 C1 e2 b2 C2 e3 b3 C3 e4 b4 C4 e5 b5 C5 Ox2 Ox3 Ox4 Ox5;omega
 rw [E];obtain ⟨d,ed⟩:∃ d,low (x5:Int) 9=d:=⟨_,rfl⟩;have CS:=hid (fun w=>zCu (x5:Int) 9 w (by decide) (by decide));rw [ed] at CS ⊢;clear ed;clear E hs e1 b1 e2 b2 e3 b3 e4 b4 e5 b5 fx2 fx3 fx4 fx5;go_enter func227,ntmps227;go_wp2_with fail;refine (C1.out _).mono ?_;rintro e w1 ⟨rfl,q1,rfl⟩;go_wp2_with fail;refine (C2.out _).mono ?_;rintro e w2 ⟨rfl,q2,rfl⟩;go_wp2_with fail;refine (C3.out _).mono ?_;rintro e w3 ⟨rfl,q3,rfl⟩;go_wp2_with fail;refine (C4.out _).mono ?_;rintro e w4 ⟨rfl,q4,rfl⟩;go_wp2_with fail;refine (C5.out _).mono ?_;rintro e w5 ⟨rfl,q5,rfl⟩;go_wp2_with fail;rw [Ox2.out,Ox3.out,Ox4.out,Ox5.out];refine (CS.out _).mono ?_;rintro e wz ⟨rfl,rfl⟩;go_wp2;go_ret;exact ⟨rfl,_,rfl⟩
theorem zJB (s:Nat) (w:World) (hs:s<65536) (hd:pc s 13 1=0):Calls prog 221 #[.int .u16 s] w fun e w'=>e=.returned (.int .i64 ((zBL s:Nat):Int))∧∃ q,w'=w.drewN q:=by
 have C0:=hid (fun w=>zGF s w hs hd);clear hd;obtain ⟨v1,e1⟩:∃ v,pc s 5 1*64=v:=⟨_,rfl⟩;have b1:=zF s 5 1;have C1:=hid (zL s 5 5 6 v1 hs (by decide) (by decide) (by decide) e1);obtain ⟨v2,e2⟩:∃ v,pc s 10 3*8=v:=⟨_,rfl⟩;have b2:=zF s 10 3;have C2:=hid (zL s 12 10 3 v2 hs (by decide) (by decide) (by decide) e2);obtain ⟨v3,e3⟩:∃ v,pc s 6 1*4=v:=⟨_,rfl⟩;have b3:=zF s 6 1;have C3:=hid (zL s 6 6 2 v3 hs (by decide) (by decide) (by decide) e3);obtain ⟨x2,fx2⟩:∃ v,v1+v2=v:=⟨_,rfl⟩;have Ox2:=hid (zw 6 v1 v2 x2 (by simp only [Nat.reducePow] at *;omega) (by simp only [Nat.reducePow] at *;omega) fx2 (by simp only [Nat.reducePow] at *;omega));obtain ⟨x3,fx3⟩:∃ v,x2+v3=v:=⟨_,rfl⟩;have Ox3:=hid (zw 3 x2 v3 x3 (by simp only [Nat.reducePow] at *;omega) (by simp only [Nat.reducePow] at *;omega) fx3 (by simp only [Nat.reducePow] at *;omega));have E:zBL s=x3:=by
  unfold zBL;rw [e1,e2,e3];clear e1 b1 C1 e2 b2 C2 e3 b3 C3 Ox2 Ox3;omega
 rw [E];clear E hs e1 b1 e2 b2 e3 b3 fx2 fx3;go_enter func221,ntmps221;go_wp2_with fail;refine (C0.out _).mono ?_;rintro e w0 ⟨rfl,q0,rfl⟩;go_wp2_with fail;refine (C1.out _).mono ?_;rintro e w1 ⟨rfl,q1,rfl⟩;go_wp2_with fail;refine (C2.out _).mono ?_;rintro e w2 ⟨rfl,q2,rfl⟩;go_wp2_with fail;refine (C3.out _).mono ?_;rintro e w3 ⟨rfl,q3,rfl⟩;go_wp2;go_ret;exact ⟨zm (by rw [Ox2.out,Ox3.out]),_,rfl⟩
theorem zJC (s:Nat) (w:World) (hs:s<65536) (hd:pc s 13 1=1):Calls prog 221 #[.int .u16 s] w fun e w'=>e=.returned (.int .i64 ((zAH s:Nat):Int))∧∃ q,w'=w.drewN q:=by
 have C0:=hid (fun w=>zEe s w hs hd);clear hd;obtain ⟨v1,e1⟩:∃ v,pc s 5 2*64=v:=⟨_,rfl⟩;have b1:=zF s 5 2;have C1:=hid (zL s 6 5 6 v1 hs (by decide) (by decide) (by decide) e1);obtain ⟨v2,e2⟩:∃ v,pc s 10 3*8=v:=⟨_,rfl⟩;have b2:=zF s 10 3;have C2:=hid (zL s 12 10 3 v2 hs (by decide) (by decide) (by decide) e2);obtain ⟨x2,fx2⟩:∃ v,v1+v2=v:=⟨_,rfl⟩;have Ox2:=hid (zw 6 v1 v2 x2 (by simp only [Nat.reducePow] at *;omega) (by simp only [Nat.reducePow] at *;omega) fx2 (by simp only [Nat.reducePow] at *;omega));have E:zAH s=x2:=by
  unfold zAH;rw [e1,e2];clear e1 b1 C1 e2 b2 C2 Ox2;omega
 rw [E];clear E hs e1 b1 e2 b2 fx2;go_enter func221,ntmps221;go_wp2_with fail;refine (C0.out _).mono ?_;rintro e w0 ⟨rfl,q0,rfl⟩;go_wp2_with fail;refine (C1.out _).mono ?_;rintro e w1 ⟨rfl,q1,rfl⟩;go_wp2_with fail;refine (C2.out _).mono ?_;rintro e w2 ⟨rfl,q2,rfl⟩;go_wp2;go_ret;exact ⟨zm (by rw [Ox2.out]),_,rfl⟩
theorem loadOffset_w (s:Nat) (w:World) (hs:s<65536) (hd:pc s 13 1=0):Calls prog 232 #[.int .u16 s] w fun e w'=>e=.returned (.int .i64 ((zDs s:Nat):Int))∧∃ q,w'=w.drewN q:=by
 have C0:=hid (fun w=>zGF s w hs hd);clear hd;obtain ⟨v1,e1⟩:∃ v,pc s 2 2*64=v:=⟨_,rfl⟩;have b1:=zF s 2 2;have C1:=hid (zL s 3 2 6 v1 hs (by decide) (by decide) (by decide) e1);obtain ⟨v2,e2⟩:∃ v,pc s 12 1*32=v:=⟨_,rfl⟩;have b2:=zF s 12 1;have C2:=hid (zL s 12 12 5 v2 hs (by decide) (by decide) (by decide) e2);obtain ⟨v3,e3⟩:∃ v,pc s 4 3*4=v:=⟨_,rfl⟩;have b3:=zF s 4 3;have C3:=hid (zL s 6 4 2 v3 hs (by decide) (by decide) (by decide) e3);obtain ⟨x2,fx2⟩:∃ v,v1+v2=v:=⟨_,rfl⟩;have Ox2:=hid (zw 6 v1 v2 x2 (by simp only [Nat.reducePow] at *;omega) (by simp only [Nat.reducePow] at *;omega) fx2 (by simp only [Nat.reducePow] at *;omega));obtain ⟨x3,fx3⟩:∃ v,x2+v3=v:=⟨_,rfl⟩;have Ox3:=hid (zw 5 x2 v3 x3 (by simp only [Nat.reducePow] at *;omega) (by simp only [Nat.reducePow] at *;omega) fx3 (by simp only [Nat.reducePow] at *;omega));have E:zDs s=x3:=by
  unfold zDs;rw [e1,e2,e3];clear e1 b1 C1 e2 b2 C2 e3 b3 C3 Ox2 Ox3;omega
 rw [E];clear E hs e1 b1 e2 b2 e3 b3 fx2 fx3;go_enter func232,ntmps232;go_wp2_with fail;refine (C0.out _).mono ?_;rintro e w0 ⟨rfl,q0,rfl⟩;go_wp2_with fail;refine (C1.out _).mono ?_;rintro e w1 ⟨rfl,q1,rfl⟩;go_wp2_with fail;refine (C2.out _).mono ?_;rintro e w2 ⟨rfl,q2,rfl⟩;go_wp2_with fail;refine (C3.out _).mono ?_;rintro e w3 ⟨rfl,q3,rfl⟩;go_wp2;go_ret;exact ⟨zm (by rw [Ox2.out,Ox3.out]),_,rfl⟩
theorem loadOffset_d (s:Nat) (w:World) (hs:s<65536) (hd:pc s 13 1=1):Calls prog 232 #[.int .u16 s] w fun e w'=>e=.returned (.int .i64 ((zDt s:Nat):Int))∧∃ q,w'=w.drewN q:=by
 have C0:=hid (fun w=>zEe s w hs hd);clear hd;obtain ⟨v1,e1⟩:∃ v,pc s 2 3*64=v:=⟨_,rfl⟩;have b1:=zF s 2 3;have C1:=hid (zL s 4 2 6 v1 hs (by decide) (by decide) (by decide) e1);obtain ⟨v2,e2⟩:∃ v,pc s 12 1*32=v:=⟨_,rfl⟩;have b2:=zF s 12 1;have C2:=hid (zL s 12 12 5 v2 hs (by decide) (by decide) (by decide) e2);obtain ⟨v3,e3⟩:∃ v,pc s 5 2*8=v:=⟨_,rfl⟩;have b3:=zF s 5 2;have C3:=hid (zL s 6 5 3 v3 hs (by decide) (by decide) (by decide) e3);obtain ⟨x2,fx2⟩:∃ v,v1+v2=v:=⟨_,rfl⟩;have Ox2:=hid (zw 6 v1 v2 x2 (by simp only [Nat.reducePow] at *;omega) (by simp only [Nat.reducePow] at *;omega) fx2 (by simp only [Nat.reducePow] at *;omega));obtain ⟨x3,fx3⟩:∃ v,x2+v3=v:=⟨_,rfl⟩;have Ox3:=hid (zw 5 x2 v3 x3 (by simp only [Nat.reducePow] at *;omega) (by simp only [Nat.reducePow] at *;omega) fx3 (by simp only [Nat.reducePow] at *;omega));have E:zDt s=x3:=by
  unfold zDt;rw [e1,e2,e3];clear e1 b1 C1 e2 b2 C2 e3 b3 C3 Ox2 Ox3;omega
 rw [E];clear E hs e1 b1 e2 b2 e3 b3 fx2 fx3;go_enter func232,ntmps232;go_wp2_with fail;refine (C0.out _).mono ?_;rintro e w0 ⟨rfl,q0,rfl⟩;go_wp2_with fail;refine (C1.out _).mono ?_;rintro e w1 ⟨rfl,q1,rfl⟩;go_wp2_with fail;refine (C2.out _).mono ?_;rintro e w2 ⟨rfl,q2,rfl⟩;go_wp2_with fail;refine (C3.out _).mono ?_;rintro e w3 ⟨rfl,q3,rfl⟩;go_wp2;go_ret;exact ⟨zm (by rw [Ox2.out,Ox3.out]),_,rfl⟩
theorem storeOffset_w (s:Nat) (w:World) (hs:s<65536) (hd:pc s 13 1=0):Calls prog 231 #[.int .u16 s] w fun e w'=>e=.returned (.int .i64 ((zCI s:Nat):Int))∧∃ q,w'=w.drewN q:=by
 have C0:=hid (fun w=>zGF s w hs hd);clear hd;obtain ⟨v1,e1⟩:∃ v,pc s 7 2*64=v:=⟨_,rfl⟩;have b1:=zF s 7 2;have C1:=hid (zL s 8 7 6 v1 hs (by decide) (by decide) (by decide) e1);obtain ⟨v2,e2⟩:∃ v,pc s 9 4*4=v:=⟨_,rfl⟩;have b2:=zF s 9 4;have C2:=hid (zL s 12 9 2 v2 hs (by decide) (by decide) (by decide) e2);obtain ⟨x2,fx2⟩:∃ v,v1+v2=v:=⟨_,rfl⟩;have Ox2:=hid (zw 6 v1 v2 x2 (by simp only [Nat.reducePow] at *;omega) (by simp only [Nat.reducePow] at *;omega) fx2 (by simp only [Nat.reducePow] at *;omega));have E:zCI s=x2:=by
  unfold zCI;rw [e1,e2];clear e1 b1 C1 e2 b2 C2 Ox2;omega
 rw [E];clear E hs e1 b1 e2 b2 fx2;go_enter func231,ntmps231;go_wp2_with fail;refine (C0.out _).mono ?_;rintro e w0 ⟨rfl,q0,rfl⟩;go_wp2_with fail;refine (C1.out _).mono ?_;rintro e w1 ⟨rfl,q1,rfl⟩;go_wp2_with fail;refine (C2.out _).mono ?_;rintro e w2 ⟨rfl,q2,rfl⟩;go_wp2;go_ret;exact ⟨zm (by rw [Ox2.out]),_,rfl⟩
theorem storeOffset_d (s:Nat) (w:World) (hs:s<65536) (hd:pc s 13 1=1):Calls prog 231 #[.int .u16 s] w fun e w'=>e=.returned (.int .i64 ((zCJ s:Nat):Int))∧∃ q,w'=w.drewN q:=by
 have C0:=hid (fun w=>zEe s w hs hd);clear hd;obtain ⟨v1,e1⟩:∃ v,pc s 7 3*64=v:=⟨_,rfl⟩;have b1:=zF s 7 3;have C1:=hid (zL s 9 7 6 v1 hs (by decide) (by decide) (by decide) e1);obtain ⟨v2,e2⟩:∃ v,pc s 10 3*8=v:=⟨_,rfl⟩;have b2:=zF s 10 3;have C2:=hid (zL s 12 10 3 v2 hs (by decide) (by decide) (by decide) e2);obtain ⟨x2,fx2⟩:∃ v,v1+v2=v:=⟨_,rfl⟩;have Ox2:=hid (zw 6 v1 v2 x2 (by simp only [Nat.reducePow] at *;omega) (by simp only [Nat.reducePow] at *;omega) fx2 (by simp only [Nat.reducePow] at *;omega));have E:zCJ s=x2:=by
  unfold zCJ;rw [e1,e2];clear e1 b1 C1 e2 b2 C2 Ox2;omega
 rw [E];clear E hs e1 b1 e2 b2 fx2;go_enter func231,ntmps231;go_wp2_with fail;refine (C0.out _).mono ?_;rintro e w0 ⟨rfl,q0,rfl⟩;go_wp2_with fail;refine (C1.out _).mono ?_;rintro e w1 ⟨rfl,q1,rfl⟩;go_wp2_with fail;refine (C2.out _).mono ?_;rintro e w2 ⟨rfl,q2,rfl⟩;go_wp2;go_ret;exact ⟨zm (by rw [Ox2.out]),_,rfl⟩
theorem zAX (s:Nat) (w:World) (hs:s<65536):Calls prog 223 #[.int .u16 s] w fun e w'=>e=.returned (.int .i64 (low (zN s:Nat) 6))∧∃ q,w'=w.drewN q:=by
 have C:=hid (fun w=>zDL s w hs);generalize zN s=v at *;have D:=hid (fun w=>zCu (v:Int) 6 w (by decide) (by decide));generalize low (v:Int) 6=d at *;clear hs;go_enter func223,ntmps223;go_wp2_with fail;refine (C.out _).mono ?_;rintro e w1 ⟨rfl,q,rfl⟩;go_wp2_with fail;refine (D.out _).mono ?_;rintro e w2 ⟨rfl,rfl⟩;go_wp2;go_ret;exact ⟨rfl,_,rfl⟩
theorem upperNumber_any (s:Nat) (w:World) (hs:s<65536):Calls prog 238 #[.int .u16 s] w fun e w'=>e=.returned (.int .i64 (low (zN s:Nat) 6*4096))∧∃ q,w'=w.drewN q:=by
 have C:=hid (fun w=>zAX s w hs);have l1:-32≤low (zN s:Nat) 6:=zDB _ 6;have l2:low (zN s:Nat) 6<32:=zDC _ 6 (by decide);generalize low (zN s:Nat) 6=d at *;clear hs;go_enter func238,ntmps238;go_wp2_with fail;refine (C.out _).mono ?_;rintro e w1 ⟨rfl,q,rfl⟩;go_wp2;go_ret;exact ⟨zm (by first|rfl|(unfold wrap64;omega)|simp),_,rfl⟩
variable {w w' w1 w2:World}
theorem kd (h:∃ q,w'=w.drewN q):Kp none w w':=by
 obtain ⟨q,rfl⟩:=h;exact (Kp.refl _ _).drewN _
variable {cs:Array Value}
theorem kb (h:Hid (Kp none w w1)) (g:Hid (Has w1 w.heap.size 38 cs)) (hq:∃ q,w2=w1.drewN q):Hid (Kp none w w2)∧Hid (Has w2 w.heap.size 38 cs):=
 ⟨hid (h.out.trans (kd hq)),hid (g.out.kp (kd hq) (by simp))⟩
theorem kb0 (w:World):Hid (Kp none w (w.alloc (.cells (I7 0 0 0 0 0 0 0) 38)))∧Hid (Has (w.alloc (.cells (I7 0 0 0 0 0 0 0) 38)) w.heap.size 38 (I7 0 0 0 0 0 0 0)):=
 ⟨hid ((Kp.refl none w).alloc (I7 0 0 0 0 0 0 0) 38),hid (Has.new w (I7 0 0 0 0 0 0 0) 38)⟩
theorem small_none (s:Nat) (op:Int) (w:World) (hs:s<65536) (hk:pc s 13 3=0) (hf:zAa s=0):Calls prog 192 #[.int .u16 s,.int .i64 op] w fun e w'=>e=.returned (.agg (I7 0 0 0 0 0 0 0))∧Kp none w w':=by
 have CK:=hid (fun w=>zAZ s 0 w hs hk);have CF:=hid (fun w=>zIJ s w hs);rw [hf] at CF;clear hf hk;clear hs;obtain ⟨HK,HB⟩:=kb0 w;go_enter func192,ntmps192;go_wp2_with fail;refine (CK.out _).mono ?_;rintro e w1 ⟨rfl,hq⟩;obtain ⟨HK,HB⟩:=kb HK HB hq;go_wp2_with fail;refine (CF.out _).mono ?_;rintro e w2 ⟨rfl,hq⟩;obtain ⟨HK,HB⟩:=kb HK HB hq;have b:=HB.out;have k:=HK.out;clear HB HK;obtain ⟨q0,q1,q2,q3,q4,q5,q6⟩:=b.seven;have y:=b.free;go_wp2;refine zzb (Td.zAA rfl _ _ w.heap.size rfl (b.zA _ _ _ _ _ _ _) rfl) rfl ⟨rfl,?_⟩;exact k.zA (zzr _) _ _ _ _ _ _ _
theorem small_add (s:Nat) (op:Int) (w:World) (hs:s<65536) (hk:pc s 13 3=0) (hf:(((zAa s:Nat):Int)==0)=false):Calls prog 192 #[.int .u16 s,.int .i64 op] w fun e w'=>e=.returned (.agg (I7 op ((pc s 2 3:Nat)+8) 2 0 (zAa s:Nat) 0 0))∧Kp none w w':=by
 have CK:=hid (fun w=>zAZ s 0 w hs hk);have CF:=hid (fun w=>zIJ s w hs);generalize zAa s=f at *;have CR:=hid (fun w=>zES s _ w hs rfl);generalize pc s 2 3=r at *;clear hk;clear hs;obtain ⟨HK,HB⟩:=kb0 w;go_enter func192,ntmps192;go_wp2_with fail;refine (CK.out _).mono ?_;rintro e w1 ⟨rfl,hq⟩;obtain ⟨HK,HB⟩:=kb HK HB hq;go_wp2_with fail;refine (CF.out _).mono ?_;rintro e w2 ⟨rfl,hq⟩;obtain ⟨HK,HB⟩:=kb HK HB hq;go_wp2_with fail;refine (CK.out _).mono ?_;rintro e w3 ⟨rfl,hq⟩;obtain ⟨HK,HB⟩:=kb HK HB hq;go_wp2_with fail;refine (CR.out _).mono ?_;rintro e w4 ⟨rfl,hq⟩;obtain ⟨HK,HB⟩:=kb HK HB hq;go_wp2_with fail;refine (CF.out _).mono ?_;rintro e w5 ⟨rfl,hq⟩;obtain ⟨HK,HB⟩:=kb HK HB hq;have b:=HB.out;have k:=HK.out;clear HB HK;obtain ⟨q0,q1,q2,q3,q4,q5,q6⟩:=b.seven;have y:=b.free;go_wp2;refine zzb (Td.zAA rfl _ _ w.heap.size rfl (b.zA _ _ _ _ _ _ _) rfl) rfl ⟨rfl,?_⟩;exact k.zA (zzr _) _ _ _ _ _ _ _
theorem zFe (s:Nat) (op:Int) (w:World) (hs:s<65536) (kk:Nat) (hk:pc s 13 3=kk) (h0:((kk:Int)==0)=false) (h15:pc s 15 1=1) (of:Int) (HO:∀ w,Calls prog 221 #[.int .u16 s] w fun e w'=>e=.returned (.int .i64 of)∧∃ q,w'=w.drewN q):Calls prog 192 #[.int .u16 s,.int .i64 op] w fun e w'=>e=.returned (.agg (I7 op 0 ((pc s 7 3:Nat)+8) ((pc s 2 3:Nat)+8) of 0 0))∧Kp none w w':=by
 have CK:=hid (fun w=>zAZ s kk w hs hk);have CS:=hid (fun w=>zGa s w hs h15);have CO:=hid HO;have C1:=hid (fun w=>zAq s _ w hs rfl);generalize pc s 7 3=r1 at *;have C2:=hid (fun w=>zFf s _ w hs rfl);generalize pc s 2 3=r2 at *;clear hk h15 HO;clear hs;obtain ⟨HK,HB⟩:=kb0 w;go_enter func192,ntmps192;go_wp2_with fail;refine (CK.out _).mono ?_;rintro e w1 ⟨rfl,hq⟩;obtain ⟨HK,HB⟩:=kb HK HB hq;go_wp2_with fail;refine (CK.out _).mono ?_;rintro e w2 ⟨rfl,hq⟩;obtain ⟨HK,HB⟩:=kb HK HB hq;go_wp2_with fail;refine (CS.out _).mono ?_;rintro e w3 ⟨rfl,hq⟩;obtain ⟨HK,HB⟩:=kb HK HB hq;go_wp2_with fail;refine (C1.out _).mono ?_;rintro e w4 ⟨rfl,hq⟩;obtain ⟨HK,HB⟩:=kb HK HB hq;go_wp2_with fail;refine (C2.out _).mono ?_;rintro e w5 ⟨rfl,hq⟩;obtain ⟨HK,HB⟩:=kb HK HB hq;go_wp2_with fail;refine (CO.out _).mono ?_;rintro e w6 ⟨rfl,hq⟩;obtain ⟨HK,HB⟩:=kb HK HB hq;have b:=HB.out;have k:=HK.out;clear HB HK;obtain ⟨q0,q1,q2,q3,q4,q5,q6⟩:=b.seven;have y:=b.free;go_wp2;refine zzb (Td.zAA rfl _ _ w.heap.size rfl (b.zA _ _ _ _ _ _ _) rfl) rfl ⟨rfl,?_⟩;exact k.zA (zzr _) _ _ _ _ _ _ _
theorem zGg (s:Nat) (op:Int) (w:World) (hs:s<65536) (kk:Nat) (hk:pc s 13 3=kk) (h0:((kk:Int)==0)=false) (h15:pc s 15 1=0) (of:Int) (HO:∀ w,Calls prog 221 #[.int .u16 s] w fun e w'=>e=.returned (.int .i64 of)∧∃ q,w'=w.drewN q):Calls prog 192 #[.int .u16 s,.int .i64 op] w fun e w'=>e=.returned (.agg (I7 op ((pc s 2 3:Nat)+8) ((pc s 7 3:Nat)+8) 0 of 0 0))∧Kp none w w':=by
 have CK:=hid (fun w=>zAZ s kk w hs hk);have CS:=hid (fun w=>zFa s w hs h15);have CO:=hid HO;have C1:=hid (fun w=>zAq s _ w hs rfl);generalize pc s 7 3=r1 at *;have C2:=hid (fun w=>zES s _ w hs rfl);generalize pc s 2 3=r2 at *;clear hk h15 HO;clear hs;obtain ⟨HK,HB⟩:=kb0 w;go_enter func192,ntmps192;go_wp2_with fail;refine (CK.out _).mono ?_;rintro e w1 ⟨rfl,hq⟩;obtain ⟨HK,HB⟩:=kb HK HB hq;go_wp2_with fail;refine (CK.out _).mono ?_;rintro e w2 ⟨rfl,hq⟩;obtain ⟨HK,HB⟩:=kb HK HB hq;go_wp2_with fail;refine (CS.out _).mono ?_;rintro e w3 ⟨rfl,hq⟩;obtain ⟨HK,HB⟩:=kb HK HB hq;go_wp2_with fail;refine (C2.out _).mono ?_;rintro e w4 ⟨rfl,hq⟩;obtain ⟨HK,HB⟩:=kb HK HB hq;go_wp2_with fail;refine (C1.out _).mono ?_;rintro e w5 ⟨rfl,hq⟩;obtain ⟨HK,HB⟩:=kb HK HB hq;go_wp2_with fail;refine (CO.out _).mono ?_;rintro e w6 ⟨rfl,hq⟩;obtain ⟨HK,HB⟩:=kb HK HB hq;have b:=HB.out;have k:=HK.out;clear HB HK;obtain ⟨q0,q1,q2,q3,q4,q5,q6⟩:=b.seven;have y:=b.free;go_wp2;refine zzb (Td.zAA rfl _ _ w.heap.size rfl (b.zA _ _ _ _ _ _ _) rfl) rfl ⟨rfl,?_⟩;exact k.zA (zzr _) _ _ _ _ _ _ _
theorem upper_none (s:Nat) (op:Int) (w:World) (hs:s<65536) (hn:low (zN s:Nat) 6=0):Calls prog 224 #[.int .u16 s,.int .i64 op] w fun e w'=>e=.returned (.agg (I7 0 0 0 0 0 0 0))∧Kp none w w':=by
 have CN:=hid (fun w=>zAX s w hs);rw [hn] at CN;clear hn;clear hs;obtain ⟨HK,HB⟩:=kb0 w;go_enter func224,ntmps224;go_wp2_with fail;refine (CN.out _).mono ?_;rintro e w1 ⟨rfl,hq⟩;obtain ⟨HK,HB⟩:=kb HK HB hq;have b:=HB.out;have k:=HK.out;clear HB HK;obtain ⟨q0,q1,q2,q3,q4,q5,q6⟩:=b.seven;have y:=b.free;go_wp2;refine zzb (Td.zAA rfl _ _ w.heap.size rfl (b.zA _ _ _ _ _ _ _) rfl) rfl ⟨rfl,?_⟩;exact k.zA (zzr _) _ _ _ _ _ _ _
theorem upper_stack (s:Nat) (op:Int) (w:World) (hs:s<65536) (hn:(low (zN s:Nat) 6==0)=false) (hr:pc s 7 5=2):Calls prog 224 #[.int .u16 s,.int .i64 op] w fun e w'=>e=.returned (.agg (I7 22 2 2 0 (low (zAN s:Nat) 10) 0 0))∧Kp none w w':=by
 have CN:=hid (fun w=>zAX s w hs);generalize low (zN s:Nat) 6=n at *;have CR:=hid (fun w=>zDm s 2 w hs hr);have CM:=hid (fun w=>stackMove_any s w hs);generalize low (zAN s:Nat) 10=m at *;clear hr;clear hs;obtain ⟨HK,HB⟩:=kb0 w;go_enter func224,ntmps224;go_wp2_with fail;refine (CN.out _).mono ?_;rintro e w1 ⟨rfl,hq⟩;obtain ⟨HK,HB⟩:=kb HK HB hq;go_wp2_with fail;refine (CR.out _).mono ?_;rintro e w2 ⟨rfl,hq⟩;obtain ⟨HK,HB⟩:=kb HK HB hq;go_wp2_with fail;refine (CM.out _).mono ?_;rintro e w3 ⟨rfl,hq⟩;obtain ⟨HK,HB⟩:=kb HK HB hq;have b:=HB.out;have k:=HK.out;clear HB HK;obtain ⟨q0,q1,q2,q3,q4,q5,q6⟩:=b.seven;have y:=b.free;go_wp2;refine zzb (Td.zAA rfl _ _ w.heap.size rfl (b.zA _ _ _ _ _ _ _) rfl) rfl ⟨rfl,?_⟩;exact k.zA (zzr _) _ _ _ _ _ _ _
theorem upper_lui (s:Nat) (op:Int) (w:World) (hs:s<65536) (hn:(low (zN s:Nat) 6==0)=false) (hr:(((pc s 7 5:Nat):Int)==2)=false):Calls prog 224 #[.int .u16 s,.int .i64 op] w fun e w'=>e=.returned (.agg (I7 op (pc s 7 5:Nat) 0 0 (low (zN s:Nat) 6*4096) 0 0))∧Kp none w w':=by
 have CU:=hid (fun w=>upperNumber_any s w hs);have CN:=hid (fun w=>zAX s w hs);generalize low (zN s:Nat) 6=n at *;have CR:=hid (fun w=>zDm s _ w hs rfl);generalize pc s 7 5=r at *;clear hs;obtain ⟨HK,HB⟩:=kb0 w;go_enter func224,ntmps224;go_wp2_with fail;refine (CN.out _).mono ?_;rintro e w1 ⟨rfl,hq⟩;obtain ⟨HK,HB⟩:=kb HK HB hq;go_wp2_with fail;refine (CR.out _).mono ?_;rintro e w2 ⟨rfl,hq⟩;obtain ⟨HK,HB⟩:=kb HK HB hq;go_wp2_with fail;refine (CR.out _).mono ?_;rintro e w3 ⟨rfl,hq⟩;obtain ⟨HK,HB⟩:=kb HK HB hq;go_wp2_with fail;refine (CU.out _).mono ?_;rintro e w4 ⟨rfl,hq⟩;obtain ⟨HK,HB⟩:=kb HK HB hq;have b:=HB.out;have k:=HK.out;clear HB HK;obtain ⟨q0,q1,q2,q3,q4,q5,q6⟩:=b.seven;have y:=b.free;go_wp2;refine zzb (Td.zAA rfl _ _ w.heap.size rfl (b.zA _ _ _ _ _ _ _) rfl) rfl ⟨rfl,?_⟩;exact k.zA (zzr _) _ _ _ _ _ _ _
theorem move_add (s:Nat) (op:Int) (w:World) (hs:s<65536) (hb:pc s 12 1=1) (h2:(((pc s 2 5:Nat):Int)==0)=false) (h2':(((pc s 2 5:Nat):Int) != 0)=true):Calls prog 229 #[.int .u16 s,.int .i64 op] w fun e w'=>e=.returned (.agg (I7 op (pc s 7 5:Nat) (pc s 7 5:Nat) (pc s 2 5:Nat) 0 0 0))∧Kp none w w':=by
 have CB:=hid (zL s 12 12 0 1 hs (by decide) (by decide) (by decide) (by show pc s 12 1*2^0=1;rw [hb]));have C2:=hid (fun w=>zFh s _ w hs rfl);generalize pc s 2 5=r2 at *;have CR:=hid (fun w=>zDm s _ w hs rfl);generalize pc s 7 5=r at *;clear hb;clear hs;obtain ⟨HK,HB⟩:=kb0 w;go_enter func229,ntmps229;go_wp2_with fail;refine (CB.out _).mono ?_;rintro e w1 ⟨rfl,hq⟩;obtain ⟨HK,HB⟩:=kb HK HB hq;go_wp2_with fail;refine (C2.out _).mono ?_;rintro e w2 ⟨rfl,hq⟩;obtain ⟨HK,HB⟩:=kb HK HB hq;go_wp2_with fail;refine (CR.out _).mono ?_;rintro e w3 ⟨rfl,hq⟩;obtain ⟨HK,HB⟩:=kb HK HB hq;go_wp2_with fail;refine (CR.out _).mono ?_;rintro e w4 ⟨rfl,hq⟩;obtain ⟨HK,HB⟩:=kb HK HB hq;go_wp2_with fail;refine (C2.out _).mono ?_;rintro e w5 ⟨rfl,hq⟩;obtain ⟨HK,HB⟩:=kb HK HB hq;have b:=HB.out;have k:=HK.out;clear HB HK;obtain ⟨q0,q1,q2,q3,q4,q5,q6⟩:=b.seven;have y:=b.free;go_wp2;refine zzb (Td.zAA rfl _ _ w.heap.size rfl (b.zA _ _ _ _ _ _ _) rfl) rfl ⟨rfl,?_⟩;exact k.zA (zzr _) _ _ _ _ _ _ _
theorem move_mv (s:Nat) (op:Int) (w:World) (hs:s<65536) (hb:pc s 12 1=0) (h2:(((pc s 2 5:Nat):Int)==0)=false) (h2':(((pc s 2 5:Nat):Int) != 0)=true):Calls prog 229 #[.int .u16 s,.int .i64 op] w fun e w'=>e=.returned (.agg (I7 op (pc s 7 5:Nat) 0 (pc s 2 5:Nat) 0 0 0))∧Kp none w w':=by
 have CB:=hid (zL s 12 12 0 0 hs (by decide) (by decide) (by decide) (by show pc s 12 1*2^0=0;rw [hb]));have C2:=hid (fun w=>zFh s _ w hs rfl);generalize pc s 2 5=r2 at *;have CR:=hid (fun w=>zDm s _ w hs rfl);generalize pc s 7 5=r at *;clear hb;clear hs;obtain ⟨HK,HB⟩:=kb0 w;go_enter func229,ntmps229;go_wp2_with fail;refine (CB.out _).mono ?_;rintro e w1 ⟨rfl,hq⟩;obtain ⟨HK,HB⟩:=kb HK HB hq;go_wp2_with fail;refine (C2.out _).mono ?_;rintro e w2 ⟨rfl,hq⟩;obtain ⟨HK,HB⟩:=kb HK HB hq;go_wp2_with fail;refine (C2.out _).mono ?_;rintro e w3 ⟨rfl,hq⟩;obtain ⟨HK,HB⟩:=kb HK HB hq;go_wp2_with fail;refine (CR.out _).mono ?_;rintro e w4 ⟨rfl,hq⟩;obtain ⟨HK,HB⟩:=kb HK HB hq;go_wp2_with fail;refine (C2.out _).mono ?_;rintro e w5 ⟨rfl,hq⟩;obtain ⟨HK,HB⟩:=kb HK HB hq;have b:=HB.out;have k:=HK.out;clear HB HK;obtain ⟨q0,q1,q2,q3,q4,q5,q6⟩:=b.seven;have y:=b.free;go_wp2;refine zzb (Td.zAA rfl _ _ w.heap.size rfl (b.zA _ _ _ _ _ _ _) rfl) rfl ⟨rfl,?_⟩;exact k.zA (zzr _) _ _ _ _ _ _ _
theorem move_jalr (s:Nat) (op:Int) (w:World) (hs:s<65536) (hb:pc s 12 1=1) (h2:pc s 2 5=0) (hr:(((pc s 7 5:Nat):Int)==0)=false) (hr':(((pc s 7 5:Nat):Int) != 0)=true):Calls prog 229 #[.int .u16 s,.int .i64 op] w fun e w'=>e=.returned (.agg (I7 4 1 (pc s 7 5:Nat) 0 0 0 0))∧Kp none w w':=by
 have CB:=hid (zL s 12 12 0 1 hs (by decide) (by decide) (by decide) (by show pc s 12 1*2^0=1;rw [hb]));have C2:=hid (fun w=>zFh s 0 w hs h2);clear h2;have CR:=hid (fun w=>zDm s _ w hs rfl);generalize pc s 7 5=r at *;clear hb;clear hs;obtain ⟨HK,HB⟩:=kb0 w;go_enter func229,ntmps229;go_wp2_with fail;refine (CB.out _).mono ?_;rintro e w1 ⟨rfl,hq⟩;obtain ⟨HK,HB⟩:=kb HK HB hq;go_wp2_with fail;refine (C2.out _).mono ?_;rintro e w2 ⟨rfl,hq⟩;obtain ⟨HK,HB⟩:=kb HK HB hq;go_wp2_with fail;refine (C2.out _).mono ?_;rintro e w3 ⟨rfl,hq⟩;obtain ⟨HK,HB⟩:=kb HK HB hq;go_wp2_with fail;refine (CR.out _).mono ?_;rintro e w4 ⟨rfl,hq⟩;obtain ⟨HK,HB⟩:=kb HK HB hq;go_wp2_with fail;refine (CR.out _).mono ?_;rintro e w5 ⟨rfl,hq⟩;obtain ⟨HK,HB⟩:=kb HK HB hq;have b:=HB.out;have k:=HK.out;clear HB HK;obtain ⟨q0,q1,q2,q3,q4,q5,q6⟩:=b.seven;have y:=b.free;go_wp2;refine zzb (Td.zAA rfl _ _ w.heap.size rfl (b.zA _ _ _ _ _ _ _) rfl) rfl ⟨rfl,?_⟩;exact k.zA (zzr _) _ _ _ _ _ _ _
theorem move_jr (s:Nat) (op:Int) (w:World) (hs:s<65536) (hb:pc s 12 1=0) (h2:pc s 2 5=0) (hr:(((pc s 7 5:Nat):Int)==0)=false) (hr':(((pc s 7 5:Nat):Int) != 0)=true):Calls prog 229 #[.int .u16 s,.int .i64 op] w fun e w'=>e=.returned (.agg (I7 4 0 (pc s 7 5:Nat) 0 0 0 0))∧Kp none w w':=by
 have CB:=hid (zL s 12 12 0 0 hs (by decide) (by decide) (by decide) (by show pc s 12 1*2^0=0;rw [hb]));have C2:=hid (fun w=>zFh s 0 w hs h2);clear h2;have CR:=hid (fun w=>zDm s _ w hs rfl);generalize pc s 7 5=r at *;clear hb;clear hs;obtain ⟨HK,HB⟩:=kb0 w;go_enter func229,ntmps229;go_wp2_with fail;refine (CB.out _).mono ?_;rintro e w1 ⟨rfl,hq⟩;obtain ⟨HK,HB⟩:=kb HK HB hq;go_wp2_with fail;refine (C2.out _).mono ?_;rintro e w2 ⟨rfl,hq⟩;obtain ⟨HK,HB⟩:=kb HK HB hq;go_wp2_with fail;refine (C2.out _).mono ?_;rintro e w3 ⟨rfl,hq⟩;obtain ⟨HK,HB⟩:=kb HK HB hq;go_wp2_with fail;refine (CR.out _).mono ?_;rintro e w4 ⟨rfl,hq⟩;obtain ⟨HK,HB⟩:=kb HK HB hq;go_wp2_with fail;refine (CR.out _).mono ?_;rintro e w5 ⟨rfl,hq⟩;obtain ⟨HK,HB⟩:=kb HK HB hq;go_wp2_with fail;refine (CR.out _).mono ?_;rintro e w6 ⟨rfl,hq⟩;obtain ⟨HK,HB⟩:=kb HK HB hq;have b:=HB.out;have k:=HK.out;clear HB HK;obtain ⟨q0,q1,q2,q3,q4,q5,q6⟩:=b.seven;have y:=b.free;go_wp2;refine zzb (Td.zAA rfl _ _ w.heap.size rfl (b.zA _ _ _ _ _ _ _) rfl) rfl ⟨rfl,?_⟩;exact k.zA (zzr _) _ _ _ _ _ _ _
theorem move_break (s:Nat) (op:Int) (w:World) (hs:s<65536) (hb:pc s 12 1=1) (h2:pc s 2 5=0) (hr:pc s 7 5=0):Calls prog 229 #[.int .u16 s,.int .i64 op] w fun e w'=>e=.returned (.agg (I7 88 0 0 0 0 0 0))∧Kp none w w':=by
 have CB:=hid (zL s 12 12 0 1 hs (by decide) (by decide) (by decide) (by show pc s 12 1*2^0=1;rw [hb]));have C2:=hid (fun w=>zFh s 0 w hs h2);clear h2;have CR:=hid (fun w=>zDm s 0 w hs hr);clear hr;clear hb;clear hs;obtain ⟨HK,HB⟩:=kb0 w;go_enter func229,ntmps229;go_wp2_with fail;refine (CB.out _).mono ?_;rintro e w1 ⟨rfl,hq⟩;obtain ⟨HK,HB⟩:=kb HK HB hq;go_wp2_with fail;refine (C2.out _).mono ?_;rintro e w2 ⟨rfl,hq⟩;obtain ⟨HK,HB⟩:=kb HK HB hq;go_wp2_with fail;refine (C2.out _).mono ?_;rintro e w3 ⟨rfl,hq⟩;obtain ⟨HK,HB⟩:=kb HK HB hq;go_wp2_with fail;refine (CR.out _).mono ?_;rintro e w4 ⟨rfl,hq⟩;obtain ⟨HK,HB⟩:=kb HK HB hq;go_wp2_with fail;refine (CR.out _).mono ?_;rintro e w5 ⟨rfl,hq⟩;obtain ⟨HK,HB⟩:=kb HK HB hq;have b:=HB.out;have k:=HK.out;clear HB HK;obtain ⟨q0,q1,q2,q3,q4,q5,q6⟩:=b.seven;have y:=b.free;go_wp2;refine zzb (Td.zAA rfl _ _ w.heap.size rfl (b.zA _ _ _ _ _ _ _) rfl) rfl ⟨rfl,?_⟩;exact k.zA (zzr _) _ _ _ _ _ _ _
theorem move_none (s:Nat) (op:Int) (w:World) (hs:s<65536) (hb:pc s 12 1=0) (h2:pc s 2 5=0) (hr:pc s 7 5=0):Calls prog 229 #[.int .u16 s,.int .i64 op] w fun e w'=>e=.returned (.agg (I7 0 0 0 0 0 0 0))∧Kp none w w':=by
 have CB:=hid (zL s 12 12 0 0 hs (by decide) (by decide) (by decide) (by show pc s 12 1*2^0=0;rw [hb]));have C2:=hid (fun w=>zFh s 0 w hs h2);clear h2;have CR:=hid (fun w=>zDm s 0 w hs hr);clear hr;clear hb;clear hs;obtain ⟨HK,HB⟩:=kb0 w;go_enter func229,ntmps229;go_wp2_with fail;refine (CB.out _).mono ?_;rintro e w1 ⟨rfl,hq⟩;obtain ⟨HK,HB⟩:=kb HK HB hq;go_wp2_with fail;refine (C2.out _).mono ?_;rintro e w2 ⟨rfl,hq⟩;obtain ⟨HK,HB⟩:=kb HK HB hq;go_wp2_with fail;refine (C2.out _).mono ?_;rintro e w3 ⟨rfl,hq⟩;obtain ⟨HK,HB⟩:=kb HK HB hq;go_wp2_with fail;refine (CR.out _).mono ?_;rintro e w4 ⟨rfl,hq⟩;obtain ⟨HK,HB⟩:=kb HK HB hq;go_wp2_with fail;refine (CR.out _).mono ?_;rintro e w5 ⟨rfl,hq⟩;obtain ⟨HK,HB⟩:=kb HK HB hq;have b:=HB.out;have k:=HK.out;clear HB HK;obtain ⟨q0,q1,q2,q3,q4,q5,q6⟩:=b.seven;have y:=b.free;go_wp2;refine zzb (Td.zAA rfl _ _ w.heap.size rfl (b.zA _ _ _ _ _ _ _) rfl) rfl ⟨rfl,?_⟩;exact k.zA (zzr _) _ _ _ _ _ _ _
theorem whole_shift (s:Nat) (op:Int) (w:World) (hs:s<65536) (hk:pc s 13 3=0):Calls prog 194 #[.int .u16 s,.int .i64 op] w fun e w'=>e=.returned (.agg (I7 op (pc s 7 5:Nat) (pc s 7 5:Nat) 0 (zN s:Nat) 0 0))∧Kp none w w':=by
 have CK:=hid (fun w=>zAZ s 0 w hs hk);have CS:=hid (fun w=>zDL s w hs);generalize zN s=sh at *;have CR:=hid (fun w=>zDm s _ w hs rfl);generalize pc s 7 5=r at *;clear hk;clear hs;obtain ⟨HK,HB⟩:=kb0 w;go_enter func194,ntmps194;go_wp2_with fail;refine (CK.out _).mono ?_;rintro e w1 ⟨rfl,hq⟩;obtain ⟨HK,HB⟩:=kb HK HB hq;go_wp2_with fail;refine (CR.out _).mono ?_;rintro e w2 ⟨rfl,hq⟩;obtain ⟨HK,HB⟩:=kb HK HB hq;go_wp2_with fail;refine (CR.out _).mono ?_;rintro e w3 ⟨rfl,hq⟩;obtain ⟨HK,HB⟩:=kb HK HB hq;go_wp2_with fail;refine (CS.out _).mono ?_;rintro e w4 ⟨rfl,hq⟩;obtain ⟨HK,HB⟩:=kb HK HB hq;have b:=HB.out;have k:=HK.out;clear HB HK;obtain ⟨q0,q1,q2,q3,q4,q5,q6⟩:=b.seven;have y:=b.free;go_wp2;refine zzb (Td.zAA rfl _ _ w.heap.size rfl (b.zA _ _ _ _ _ _ _) rfl) rfl ⟨rfl,?_⟩;exact k.zA (zzr _) _ _ _ _ _ _ _
theorem zFW (s:Nat) (op:Int) (w:World) (hs:s<65536) (kk:Nat) (hk:pc s 13 3=kk) (h4:((kk:Int)==4)=false) (h0:((kk:Int)==0)=false) (h15:pc s 15 1=1) (of:Int) (HO:∀ w,Calls prog 231 #[.int .u16 s] w fun e w'=>e=.returned (.int .i64 of)∧∃ q,w'=w.drewN q):Calls prog 194 #[.int .u16 s,.int .i64 op] w fun e w'=>e=.returned (.agg (I7 op 0 2 (pc s 2 5:Nat) of 0 0))∧Kp none w w':=by
 have CK:=hid (fun w=>zAZ s kk w hs hk);have CS:=hid (fun w=>zGa s w hs h15);have CO:=hid HO;have C2:=hid (fun w=>zFh s _ w hs rfl);generalize pc s 2 5=r2 at *;clear hk h15 HO;clear hs;obtain ⟨HK,HB⟩:=kb0 w;go_enter func194,ntmps194;go_wp2_with fail;refine (CK.out _).mono ?_;rintro e w1 ⟨rfl,hq⟩;obtain ⟨HK,HB⟩:=kb HK HB hq;go_wp2_with fail;refine (CK.out _).mono ?_;rintro e w2 ⟨rfl,hq⟩;obtain ⟨HK,HB⟩:=kb HK HB hq;go_wp2_with fail;refine (CS.out _).mono ?_;rintro e w3 ⟨rfl,hq⟩;obtain ⟨HK,HB⟩:=kb HK HB hq;go_wp2_with fail;refine (C2.out _).mono ?_;rintro e w4 ⟨rfl,hq⟩;obtain ⟨HK,HB⟩:=kb HK HB hq;go_wp2_with fail;refine (CO.out _).mono ?_;rintro e w5 ⟨rfl,hq⟩;obtain ⟨HK,HB⟩:=kb HK HB hq;have b:=HB.out;have k:=HK.out;clear HB HK;obtain ⟨q0,q1,q2,q3,q4,q5,q6⟩:=b.seven;have y:=b.free;go_wp2;refine zzb (Td.zAA rfl _ _ w.heap.size rfl (b.zA _ _ _ _ _ _ _) rfl) rfl ⟨rfl,?_⟩;exact k.zA (zzr _) _ _ _ _ _ _ _
theorem zGZ (s:Nat) (op:Int) (w:World) (hs:s<65536) (kk:Nat) (hk:pc s 13 3=kk) (h4:((kk:Int)==4)=false) (h0:((kk:Int)==0)=false) (h15:pc s 15 1=0) (of:Int) (HO:∀ w,Calls prog 232 #[.int .u16 s] w fun e w'=>e=.returned (.int .i64 of)∧∃ q,w'=w.drewN q) (hr:(((pc s 7 5:Nat):Int)==0)=false) (hr':(((pc s 7 5:Nat):Int) != 0)=true):Calls prog 194 #[.int .u16 s,.int .i64 op] w fun e w'=>e=.returned (.agg (I7 op (pc s 7 5:Nat) 2 0 of 0 0))∧Kp none w w':=by
 have CK:=hid (fun w=>zAZ s kk w hs hk);have CS:=hid (fun w=>zFa s w hs h15);have CO:=hid HO;have CR:=hid (fun w=>zDm s _ w hs rfl);generalize pc s 7 5=r at *;clear hk h15 HO;clear hs;obtain ⟨HK,HB⟩:=kb0 w;go_enter func194,ntmps194;go_wp2_with fail;refine (CK.out _).mono ?_;rintro e w1 ⟨rfl,hq⟩;obtain ⟨HK,HB⟩:=kb HK HB hq;go_wp2_with fail;refine (CK.out _).mono ?_;rintro e w2 ⟨rfl,hq⟩;obtain ⟨HK,HB⟩:=kb HK HB hq;go_wp2_with fail;refine (CS.out _).mono ?_;rintro e w3 ⟨rfl,hq⟩;obtain ⟨HK,HB⟩:=kb HK HB hq;go_wp2_with fail;refine (CR.out _).mono ?_;rintro e w4 ⟨rfl,hq⟩;obtain ⟨HK,HB⟩:=kb HK HB hq;go_wp2_with fail;refine (CR.out _).mono ?_;rintro e w5 ⟨rfl,hq⟩;obtain ⟨HK,HB⟩:=kb HK HB hq;go_wp2_with fail;refine (CO.out _).mono ?_;rintro e w6 ⟨rfl,hq⟩;obtain ⟨HK,HB⟩:=kb HK HB hq;have b:=HB.out;have k:=HK.out;clear HB HK;obtain ⟨q0,q1,q2,q3,q4,q5,q6⟩:=b.seven;have y:=b.free;go_wp2;refine zzb (Td.zAA rfl _ _ w.heap.size rfl (b.zA _ _ _ _ _ _ _) rfl) rfl ⟨rfl,?_⟩;exact k.zA (zzr _) _ _ _ _ _ _ _
theorem zGY (s:Nat) (op:Int) (w:World) (hs:s<65536) (kk:Nat) (hk:pc s 13 3=kk) (h4:((kk:Int)==4)=false) (h0:((kk:Int)==0)=false) (h15:pc s 15 1=0) (hr:pc s 7 5=0):Calls prog 194 #[.int .u16 s,.int .i64 op] w fun e w'=>e=.returned (.agg (I7 0 0 0 0 0 0 0))∧Kp none w w':=by
 have CK:=hid (fun w=>zAZ s kk w hs hk);have CS:=hid (fun w=>zFa s w hs h15);have CR:=hid (fun w=>zDm s 0 w hs hr);clear hr;clear hk h15;clear hs;obtain ⟨HK,HB⟩:=kb0 w;go_enter func194,ntmps194;go_wp2_with fail;refine (CK.out _).mono ?_;rintro e w1 ⟨rfl,hq⟩;obtain ⟨HK,HB⟩:=kb HK HB hq;go_wp2_with fail;refine (CK.out _).mono ?_;rintro e w2 ⟨rfl,hq⟩;obtain ⟨HK,HB⟩:=kb HK HB hq;go_wp2_with fail;refine (CS.out _).mono ?_;rintro e w3 ⟨rfl,hq⟩;obtain ⟨HK,HB⟩:=kb HK HB hq;go_wp2_with fail;refine (CR.out _).mono ?_;rintro e w4 ⟨rfl,hq⟩;obtain ⟨HK,HB⟩:=kb HK HB hq;have b:=HB.out;have k:=HK.out;clear HB HK;obtain ⟨q0,q1,q2,q3,q4,q5,q6⟩:=b.seven;have y:=b.free;go_wp2;refine zzb (Td.zAA rfl _ _ w.heap.size rfl (b.zA _ _ _ _ _ _ _) rfl) rfl ⟨rfl,?_⟩;exact k.zA (zzr _) _ _ _ _ _ _ _
theorem constant_li (s:Nat) (op:Int) (w:World) (hs:s<65536) (hk:pc s 13 3=2):Calls prog 193 #[.int .u16 s,.int .i64 op] w fun e w'=>e=.returned (.agg (I7 op (pc s 7 5:Nat) 0 0 (low (zN s:Nat) 6) 0 0))∧Kp none w w':=by
 have CK:=hid (fun w=>zAZ s 2 w hs hk);have CN:=hid (fun w=>zAX s w hs);generalize low (zN s:Nat) 6=n at *;have CR:=hid (fun w=>zDm s _ w hs rfl);generalize pc s 7 5=r at *;clear hk;clear hs;obtain ⟨HK,HB⟩:=kb0 w;go_enter func193,ntmps193;go_wp2_with fail;refine (CK.out _).mono ?_;rintro e w1 ⟨rfl,hq⟩;obtain ⟨HK,HB⟩:=kb HK HB hq;go_wp2_with fail;refine (CR.out _).mono ?_;rintro e w2 ⟨rfl,hq⟩;obtain ⟨HK,HB⟩:=kb HK HB hq;go_wp2_with fail;refine (CN.out _).mono ?_;rintro e w3 ⟨rfl,hq⟩;obtain ⟨HK,HB⟩:=kb HK HB hq;have b:=HB.out;have k:=HK.out;clear HB HK;obtain ⟨q0,q1,q2,q3,q4,q5,q6⟩:=b.seven;have y:=b.free;go_wp2;refine zzb (Td.zAA rfl _ _ w.heap.size rfl (b.zA _ _ _ _ _ _ _) rfl) rfl ⟨rfl,?_⟩;exact k.zA (zzr _) _ _ _ _ _ _ _
theorem constant_jump (s:Nat) (op:Int) (w:World) (hs:s<65536) (hk:pc s 13 3=5):Calls prog 193 #[.int .u16 s,.int .i64 op] w fun e w'=>e=.returned (.agg (I7 op 0 0 0 (low (zCr s:Nat) 12) 0 0))∧Kp none w w':=by
 have CK:=hid (fun w=>zAZ s 5 w hs hk);have CJ:=hid (fun w=>zFF s w hs);generalize low (zCr s:Nat) 12=j at *;clear hk;clear hs;obtain ⟨HK,HB⟩:=kb0 w;go_enter func193,ntmps193;go_wp2_with fail;refine (CK.out _).mono ?_;rintro e w1 ⟨rfl,hq⟩;obtain ⟨HK,HB⟩:=kb HK HB hq;go_wp2_with fail;refine (CJ.out _).mono ?_;rintro e w2 ⟨rfl,hq⟩;obtain ⟨HK,HB⟩:=kb HK HB hq;have b:=HB.out;have k:=HK.out;clear HB HK;obtain ⟨q0,q1,q2,q3,q4,q5,q6⟩:=b.seven;have y:=b.free;go_wp2;refine zzb (Td.zAA rfl _ _ w.heap.size rfl (b.zA _ _ _ _ _ _ _) rfl) rfl ⟨rfl,?_⟩;exact k.zA (zzr _) _ _ _ _ _ _ _
theorem constant_beq (s:Nat) (w:World) (hs:s<65536) (hk:pc s 13 3=6):Calls prog 193 #[.int .u16 s,.int .i64 5] w fun e w'=>e=.returned (.agg (I7 5 0 ((pc s 7 3:Nat)+8) 0 (low (zz s:Nat) 9) 0 0))∧Kp none w w':=by
 have CK:=hid (fun w=>zAZ s 6 w hs hk);have CJ:=hid (fun w=>zDV s w hs);generalize low (zz s:Nat) 9=j at *;have C1:=hid (fun w=>zAq s _ w hs rfl);generalize pc s 7 3=r1 at *;clear hk;clear hs;obtain ⟨HK,HB⟩:=kb0 w;go_enter func193,ntmps193;go_wp2_with fail;refine (CK.out _).mono ?_;rintro e w1 ⟨rfl,hq⟩;obtain ⟨HK,HB⟩:=kb HK HB hq;go_wp2_with fail;refine (C1.out _).mono ?_;rintro e w2 ⟨rfl,hq⟩;obtain ⟨HK,HB⟩:=kb HK HB hq;go_wp2_with fail;refine (CJ.out _).mono ?_;rintro e w3 ⟨rfl,hq⟩;obtain ⟨HK,HB⟩:=kb HK HB hq;have b:=HB.out;have k:=HK.out;clear HB HK;obtain ⟨q0,q1,q2,q3,q4,q5,q6⟩:=b.seven;have y:=b.free;go_wp2;refine zzb (Td.zAA rfl _ _ w.heap.size rfl (b.zA _ _ _ _ _ _ _) rfl) rfl ⟨rfl,?_⟩;exact k.zA (zzr _) _ _ _ _ _ _ _
theorem constant_bne (s:Nat) (w:World) (hs:s<65536) (hk:pc s 13 3=7):Calls prog 193 #[.int .u16 s,.int .i64 6] w fun e w'=>e=.returned (.agg (I7 6 0 ((pc s 7 3:Nat)+8) 0 (low (zz s:Nat) 9) 0 0))∧Kp none w w':=by
 have CK:=hid (fun w=>zAZ s 7 w hs hk);have CJ:=hid (fun w=>zDV s w hs);generalize low (zz s:Nat) 9=j at *;have C1:=hid (fun w=>zAq s _ w hs rfl);generalize pc s 7 3=r1 at *;clear hk;clear hs;obtain ⟨HK,HB⟩:=kb0 w;go_enter func193,ntmps193;go_wp2_with fail;refine (CK.out _).mono ?_;rintro e w1 ⟨rfl,hq⟩;obtain ⟨HK,HB⟩:=kb HK HB hq;go_wp2_with fail;refine (C1.out _).mono ?_;rintro e w2 ⟨rfl,hq⟩;obtain ⟨HK,HB⟩:=kb HK HB hq;go_wp2_with fail;refine (CJ.out _).mono ?_;rintro e w3 ⟨rfl,hq⟩;obtain ⟨HK,HB⟩:=kb HK HB hq;have b:=HB.out;have k:=HK.out;clear HB HK;obtain ⟨q0,q1,q2,q3,q4,q5,q6⟩:=b.seven;have y:=b.free;go_wp2;refine zzb (Td.zAA rfl _ _ w.heap.size rfl (b.zA _ _ _ _ _ _ _) rfl) rfl ⟨rfl,?_⟩;exact k.zA (zzr _) _ _ _ _ _ _ _
theorem constant_addi (s:Nat) (w:World) (hs:s<65536) (hk:pc s 13 3=0):Calls prog 193 #[.int .u16 s,.int .i64 22] w fun e w'=>e=.returned (.agg (I7 22 (pc s 7 5:Nat) (pc s 7 5:Nat) 0 (low (zN s:Nat) 6) 0 0))∧Kp none w w':=by
 have CK:=hid (fun w=>zAZ s 0 w hs hk);have CN:=hid (fun w=>zAX s w hs);generalize low (zN s:Nat) 6=n at *;have CR:=hid (fun w=>zDm s _ w hs rfl);generalize pc s 7 5=r at *;clear hk;clear hs;obtain ⟨HK,HB⟩:=kb0 w;go_enter func193,ntmps193;go_wp2_with fail;refine (CK.out _).mono ?_;rintro e w1 ⟨rfl,hq⟩;obtain ⟨HK,HB⟩:=kb HK HB hq;go_wp2_with fail;refine (CR.out _).mono ?_;rintro e w2 ⟨rfl,hq⟩;obtain ⟨HK,HB⟩:=kb HK HB hq;go_wp2_with fail;refine (CR.out _).mono ?_;rintro e w3 ⟨rfl,hq⟩;obtain ⟨HK,HB⟩:=kb HK HB hq;go_wp2_with fail;refine (CN.out _).mono ?_;rintro e w4 ⟨rfl,hq⟩;obtain ⟨HK,HB⟩:=kb HK HB hq;have b:=HB.out;have k:=HK.out;clear HB HK;obtain ⟨q0,q1,q2,q3,q4,q5,q6⟩:=b.seven;have y:=b.free;go_wp2;refine zzb (Td.zAA rfl _ _ w.heap.size rfl (b.zA _ _ _ _ _ _ _) rfl) rfl ⟨rfl,?_⟩;exact k.zA (zzr _) _ _ _ _ _ _ _
theorem constant_addiw (s:Nat) (w:World) (hs:s<65536) (hk:pc s 13 3=1) (hr:(((pc s 7 5:Nat):Int)==0)=false) (hr':(((pc s 7 5:Nat):Int) != 0)=true):Calls prog 193 #[.int .u16 s,.int .i64 41] w fun e w'=>e=.returned (.agg (I7 41 (pc s 7 5:Nat) (pc s 7 5:Nat) 0 (low (zN s:Nat) 6) 0 0))∧Kp none w w':=by
 have CK:=hid (fun w=>zAZ s 1 w hs hk);have CN:=hid (fun w=>zAX s w hs);generalize low (zN s:Nat) 6=n at *;have CR:=hid (fun w=>zDm s _ w hs rfl);generalize pc s 7 5=r at *;clear hk;clear hs;obtain ⟨HK,HB⟩:=kb0 w;go_enter func193,ntmps193;go_wp2_with fail;refine (CK.out _).mono ?_;rintro e w1 ⟨rfl,hq⟩;obtain ⟨HK,HB⟩:=kb HK HB hq;go_wp2_with fail;refine (CR.out _).mono ?_;rintro e w2 ⟨rfl,hq⟩;obtain ⟨HK,HB⟩:=kb HK HB hq;go_wp2_with fail;refine (CR.out _).mono ?_;rintro e w3 ⟨rfl,hq⟩;obtain ⟨HK,HB⟩:=kb HK HB hq;go_wp2_with fail;refine (CR.out _).mono ?_;rintro e w4 ⟨rfl,hq⟩;obtain ⟨HK,HB⟩:=kb HK HB hq;go_wp2_with fail;refine (CN.out _).mono ?_;rintro e w5 ⟨rfl,hq⟩;obtain ⟨HK,HB⟩:=kb HK HB hq;have b:=HB.out;have k:=HK.out;clear HB HK;obtain ⟨q0,q1,q2,q3,q4,q5,q6⟩:=b.seven;have y:=b.free;go_wp2;refine zzb (Td.zAA rfl _ _ w.heap.size rfl (b.zA _ _ _ _ _ _ _) rfl) rfl ⟨rfl,?_⟩;exact k.zA (zzr _) _ _ _ _ _ _ _
theorem constant_none (s:Nat) (w:World) (hs:s<65536) (hk:pc s 13 3=1) (hr:pc s 7 5=0):Calls prog 193 #[.int .u16 s,.int .i64 41] w fun e w'=>e=.returned (.agg (I7 0 0 0 0 0 0 0))∧Kp none w w':=by
 have CK:=hid (fun w=>zAZ s 1 w hs hk);have CR:=hid (fun w=>zDm s 0 w hs hr);clear hr;clear hk;clear hs;obtain ⟨HK,HB⟩:=kb0 w;go_enter func193,ntmps193;go_wp2_with fail;refine (CK.out _).mono ?_;rintro e w1 ⟨rfl,hq⟩;obtain ⟨HK,HB⟩:=kb HK HB hq;go_wp2_with fail;refine (CR.out _).mono ?_;rintro e w2 ⟨rfl,hq⟩;obtain ⟨HK,HB⟩:=kb HK HB hq;have b:=HB.out;have k:=HK.out;clear HB HK;obtain ⟨q0,q1,q2,q3,q4,q5,q6⟩:=b.seven;have y:=b.free;go_wp2;refine zzb (Td.zAA rfl _ _ w.heap.size rfl (b.zA _ _ _ _ _ _ _) rfl) rfl ⟨rfl,?_⟩;exact k.zA (zzr _) _ _ _ _ _ _ _
theorem zBp (s:Nat) (op:Int) (w:World) (hs:s<65536) (hk:pc s 13 3=4) (a0 a1 a2 a3 a4 a5 a6:Int) (HM:∀ w',Kp none w w'→Calls prog 229 #[.int .u16 s,.int .i64 op] w' fun e w''=>e=.returned (.agg (I7 a0 a1 a2 a3 a4 a5 a6))∧Kp none w' w''):Calls prog 194 #[.int .u16 s,.int .i64 op] w fun e w'=>e=.returned (.agg (I7 a0 a1 a2 a3 a4 a5 a6))∧Kp none w w':=by
 have CK:=hid (fun w=>zAZ s 4 w hs hk);have CM:=hid HM;clear hs hk HM;obtain ⟨HK,HB⟩:=kb0 w;go_enter func194,ntmps194;go_wp2_with fail;refine (CK.out _).mono ?_;rintro e w0 ⟨rfl,hq⟩;obtain ⟨HK,HB⟩:=kb HK HB hq;go_wp2_with fail;refine (CK.out _).mono ?_;rintro e w1 ⟨rfl,hq⟩;obtain ⟨HK,HB⟩:=kb HK HB hq;go_wp2_with fail;refine (CM.out _ HK.out).mono ?_;rintro e wz ⟨rfl,hq⟩;have k:=HK.out.trans hq;have b:=HB.out.kp hq (by simp);clear HK HB hq CM CK;obtain ⟨q0,q1,q2,q3,q4,q5,q6⟩:=b.seven;have y:=b.free;go_wp2;refine zzb (Td.zAA rfl _ _ w.heap.size rfl (b.zA _ _ _ _ _ _ _) rfl) rfl ⟨rfl,?_⟩;exact k.zA (zzr _) _ _ _ _ _ _ _
theorem zCV (s:Nat) (op:Int) (w:World) (hs:s<65536) (hk:pc s 13 3=3) (a0 a1 a2 a3 a4 a5 a6:Int) (HM:∀ w',Kp none w w'→Calls prog 224 #[.int .u16 s,.int .i64 op] w' fun e w''=>e=.returned (.agg (I7 a0 a1 a2 a3 a4 a5 a6))∧Kp none w' w''):Calls prog 193 #[.int .u16 s,.int .i64 op] w fun e w'=>e=.returned (.agg (I7 a0 a1 a2 a3 a4 a5 a6))∧Kp none w w':=by
 have CK:=hid (fun w=>zAZ s 3 w hs hk);have CM:=hid HM;clear hs hk HM;obtain ⟨HK,HB⟩:=kb0 w;go_enter func193,ntmps193;go_wp2_with fail;refine (CK.out _).mono ?_;rintro e w0 ⟨rfl,hq⟩;obtain ⟨HK,HB⟩:=kb HK HB hq;go_wp2_with fail;refine (CM.out _ HK.out).mono ?_;rintro e wz ⟨rfl,hq⟩;have k:=HK.out.trans hq;have b:=HB.out.kp hq (by simp);clear HK HB hq CM CK;obtain ⟨q0,q1,q2,q3,q4,q5,q6⟩:=b.seven;have y:=b.free;go_wp2;refine zzb (Td.zAA rfl _ _ w.heap.size rfl (b.zA _ _ _ _ _ _ _) rfl) rfl ⟨rfl,?_⟩;exact k.zA (zzr _) _ _ _ _ _ _ _
theorem zBR (s:Nat) (op:Int) (w:World) (hs:s<65536) (hk:pc s 13 3=4) (a0 a1 a2 a3 a4 a5 a6:Int) (HM:∀ w',Kp none w w'→Calls prog 225 #[.int .u16 s,.int .i64 op] w' fun e w''=>e=.returned (.agg (I7 a0 a1 a2 a3 a4 a5 a6))∧Kp none w' w''):Calls prog 193 #[.int .u16 s,.int .i64 op] w fun e w'=>e=.returned (.agg (I7 a0 a1 a2 a3 a4 a5 a6))∧Kp none w w':=by
 have CK:=hid (fun w=>zAZ s 4 w hs hk);have CM:=hid HM;clear hs hk HM;obtain ⟨HK,HB⟩:=kb0 w;go_enter func193,ntmps193;go_wp2_with fail;refine (CK.out _).mono ?_;rintro e w0 ⟨rfl,hq⟩;obtain ⟨HK,HB⟩:=kb HK HB hq;go_wp2_with fail;refine (CM.out _ HK.out).mono ?_;rintro e wz ⟨rfl,hq⟩;have k:=HK.out.trans hq;have b:=HB.out.kp hq (by simp);clear HK HB hq CM CK;obtain ⟨q0,q1,q2,q3,q4,q5,q6⟩:=b.seven;have y:=b.free;go_wp2;refine zzb (Td.zAA rfl _ _ w.heap.size rfl (b.zA _ _ _ _ _ _ _) rfl) rfl ⟨rfl,?_⟩;exact k.zA (zzr _) _ _ _ _ _ _ _
def TabC (w:World) (g:Nat) (zs:List Int):Prop:=∀ i,i<zs.length→w.cell? ⟨g,i,none⟩=some (.int .i64 (zs.getD i 0))
variable {zs:List Int} {g:Nat}
theorem TabC.kp (h:TabC w g zs) (k:Kp none w w'):TabC w' g zs:=fun i hi=>by
 have h0:=h i hi;have hlt:g<w.heap.size:=by
  rcases Nat.lt_or_ge g w.heap.size with hl|hl
  ·exact hl
  ·simp [World.cell?,Array.getElem?_eq_none hl] at h0
 rw [World.cell?_of_block (w:=w) (k.block g hlt (by simp))];exact h0
def opsT:List Int:=[22,0,13,14,0,0,20,21,22,41,22,1,27,3,5,6,28,0,13,14,31,0,20,21,0,0,0,0,0,0,0,0]
def recT:List Int:=[32,36,39,40,46,45,0,0]
structure zEu (w:World):Prop where
 o:TabC w 0 opsT
 r:TabC w 20 recT
theorem zEu.kp (h:zEu w) (k:Kp none w w'):zEu w':=⟨h.o.kp k,h.r.kp k⟩
structure FrR (w:World) (cs:Array Value) (w1:World):Prop where
 kp:Kp none w w1
 res:Has w1 w.heap.size 38 (I7 0 0 0 0 0 0 0)
 box:Has w1 (w.heap.size+1) 38 cs
theorem FrR.start (w:World) (q:Nat) (cs:Array Value):FrR w cs (((w.alloc (.cells (I7 0 0 0 0 0 0 0) 38)).drewN q).alloc (.cells cs 38)):=
  ⟨(((Kp.refl _ _).alloc _ _).drewN _).alloc _ _,((Has.new w (I7 0 0 0 0 0 0 0) 38:Has ((w.alloc (.cells (I7 0 0 0 0 0 0 0) 38)).drewN q) w.heap.size 38 (I7 0 0 0 0 0 0 0))).alloc _,
   by have:=Has.new ((w.alloc (.cells (I7 0 0 0 0 0 0 0) 38)).drewN q) cs 38;simpa using this⟩
theorem FrR.call (h:FrR w cs w1) (k:Kp none w1 w2):FrR w cs w2:=
 ⟨h.kp.trans k,h.res.kp k (by simp),h.box.kp k (by simp)⟩
theorem FrR.set (h:FrR w cs w1) (i:Nat) (u:Value):FrR w (cs.setIfInBounds i u) (w1.setCell ⟨w.heap.size+1,i,none⟩ u):=
 ⟨h.kp.setCell (Or.inl (Nat.le_succ _)) _,h.res.other (by show w.heap.size≠w.heap.size+1;omega) _,h.box.set i u⟩
theorem reckon_srli (s:Nat) (op:Int) (w:World) (hs:s<65536) (hj:pc s 10 2=0):Calls prog 225 #[.int .u16 s,.int .i64 op] w fun e w'=>e=.returned (.agg (I7 29 ((pc s 7 3:Nat)+8) ((pc s 7 3:Nat)+8) 0 (zN s:Nat) 0 0))∧Kp none w w':=by
 have CB:=hid (zL s 11 10 0 0 hs (by decide) (by decide) (by decide) (by show pc s 10 2*2^0=0;rw [hj]));have C1:=hid (fun w=>zAq s _ w hs rfl);generalize pc s 7 3=r at *;have CN:=hid (fun w=>zDL s w hs);generalize zN s=sh at *;clear hs hj;go_enter func225,ntmps225;go_wp2_with fail;refine (C1.out _).mono ?_;rintro e w1 ⟨rfl,q1,rfl⟩;go_wp2_with fail;refine (C1.out _).mono ?_;rintro e w2 ⟨rfl,q2,rfl⟩;go_wp2_with fail;have f1:=FrR.start w (q1+q2) (I7 op ((r:Int)+8) ((r:Int)+8) 0 0 0 0);refine (CB.out _).mono ?_;rintro e w3 ⟨rfl,hq⟩;have f2:=f1.call (kd hq);clear f1 hq;go_wp2_with fail;refine (CN.out _).mono ?_;rintro e w4 ⟨rfl,hq⟩;have f3:=f2.call (kd hq);clear f2 hq;obtain ⟨b0,b1,b2,b3,b4,b5,b6⟩:=f3.box.seven;have z:=f3.box.free;obtain ⟨q0,q1,q2,q3,q4,q5,q6⟩:=f3.res.seven;have y:=f3.res.free;go_wp2;have g:=((f3.set 0 (.int .i64 29)).set 4 (.int .i64 (sh:Int)));refine zzb (Td.zAA rfl _ _ w.heap.size rfl (g.res.zA _ _ _ _ _ _ _) rfl) rfl ⟨rfl,?_⟩;exact g.kp.zA (zzr _) _ _ _ _ _ _ _
theorem reckon_srai (s:Nat) (op:Int) (w:World) (hs:s<65536) (hj:pc s 10 2=1):Calls prog 225 #[.int .u16 s,.int .i64 op] w fun e w'=>e=.returned (.agg (I7 30 ((pc s 7 3:Nat)+8) ((pc s 7 3:Nat)+8) 0 (zN s:Nat) 0 0))∧Kp none w w':=by
 have CB:=hid (zL s 11 10 0 1 hs (by decide) (by decide) (by decide) (by show pc s 10 2*2^0=1;rw [hj]));have C1:=hid (fun w=>zAq s _ w hs rfl);generalize pc s 7 3=r at *;have CN:=hid (fun w=>zDL s w hs);generalize zN s=sh at *;clear hs hj;go_enter func225,ntmps225;go_wp2_with fail;refine (C1.out _).mono ?_;rintro e w1 ⟨rfl,q1,rfl⟩;go_wp2_with fail;refine (C1.out _).mono ?_;rintro e w2 ⟨rfl,q2,rfl⟩;go_wp2_with fail;have f1:=FrR.start w (q1+q2) (I7 op ((r:Int)+8) ((r:Int)+8) 0 0 0 0);refine (CB.out _).mono ?_;rintro e w3 ⟨rfl,hq⟩;have f2:=f1.call (kd hq);clear f1 hq;go_wp2_with fail;refine (CN.out _).mono ?_;rintro e w4 ⟨rfl,hq⟩;have f3:=f2.call (kd hq);clear f2 hq;obtain ⟨b0,b1,b2,b3,b4,b5,b6⟩:=f3.box.seven;have z:=f3.box.free;obtain ⟨q0,q1,q2,q3,q4,q5,q6⟩:=f3.res.seven;have y:=f3.res.free;go_wp2;have g:=((f3.set 0 (.int .i64 30)).set 4 (.int .i64 (sh:Int)));refine zzb (Td.zAA rfl _ _ w.heap.size rfl (g.res.zA _ _ _ _ _ _ _) rfl) rfl ⟨rfl,?_⟩;exact g.kp.zA (zzr _) _ _ _ _ _ _ _
theorem reckon_andi (s:Nat) (op:Int) (w:World) (hs:s<65536) (hj:pc s 10 2=2):Calls prog 225 #[.int .u16 s,.int .i64 op] w fun e w'=>e=.returned (.agg (I7 op ((pc s 7 3:Nat)+8) ((pc s 7 3:Nat)+8) 0 (low (zN s:Nat) 6) 0 0))∧Kp none w w':=by
 have CB:=hid (zL s 11 10 0 2 hs (by decide) (by decide) (by decide) (by show pc s 10 2*2^0=2;rw [hj]));have C1:=hid (fun w=>zAq s _ w hs rfl);generalize pc s 7 3=r at *;have CN:=hid (fun w=>zAX s w hs);generalize low (zN s:Nat) 6=sh at *;clear hs hj;go_enter func225,ntmps225;go_wp2_with fail;refine (C1.out _).mono ?_;rintro e w1 ⟨rfl,q1,rfl⟩;go_wp2_with fail;refine (C1.out _).mono ?_;rintro e w2 ⟨rfl,q2,rfl⟩;go_wp2_with fail;have f1:=FrR.start w (q1+q2) (I7 op ((r:Int)+8) ((r:Int)+8) 0 0 0 0);refine (CB.out _).mono ?_;rintro e w3 ⟨rfl,hq⟩;have f2:=f1.call (kd hq);clear f1 hq;go_wp2_with fail;refine (CN.out _).mono ?_;rintro e w4 ⟨rfl,hq⟩;have f3:=f2.call (kd hq);clear f2 hq;obtain ⟨b0,b1,b2,b3,b4,b5,b6⟩:=f3.box.seven;have z:=f3.box.free;obtain ⟨q0,q1,q2,q3,q4,q5,q6⟩:=f3.res.seven;have y:=f3.res.free;go_wp2;have g:=(f3.set 4 (.int .i64 sh));refine zzb (Td.zAA rfl _ _ w.heap.size rfl (g.res.zA _ _ _ _ _ _ _) rfl) rfl ⟨rfl,?_⟩;exact g.kp.zA (zzr _) _ _ _ _ _ _ _
theorem reckon_two (s:Nat) (op:Int) (w:World) (hs:s<65536) (hj:pc s 10 2=3) (hT:zEu w):Calls prog 225 #[.int .u16 s,.int .i64 op] w fun e w'=>e=.returned (.agg (I7 (recT.getD (zCH s) 0) ((pc s 7 3:Nat)+8) ((pc s 7 3:Nat)+8) ((pc s 2 3:Nat)+8) 0 0 0))∧Kp none w w':=by
 have CB:=hid (zL s 11 10 0 3 hs (by decide) (by decide) (by decide) (by show pc s 10 2*2^0=3;rw [hj]));have C1:=hid (fun w=>zAq s _ w hs rfl);generalize pc s 7 3=r at *;have C2:=hid (fun w=>zFf s _ w hs rfl);generalize pc s 2 3=r2 at *;have CR:=hid (fun w=>reckoner_any s w hs);have hv:zCH s<8:=by
  have h1:=zF s 12 1;have h2:=zF s 5 2;simp only [Nat.reducePow] at h1 h2;unfold zCH;omega
 have HR:=hid hT.r;generalize zCH s=v at *;have hx:=hid (fun (w':World) (k:Kp none w w')=>(HR.out.kp k) v hv);have hv0:(0:Int)≤(v:Int):=by omega
 have hv8:(v:Int)<8:=by omega
 generalize recT.getD v 0=ro at *;clear hs hj hT hv;go_enter func225,ntmps225;go_wp2_with fail;refine (C1.out _).mono ?_;rintro e w1 ⟨rfl,q1,rfl⟩;go_wp2_with fail;refine (C1.out _).mono ?_;rintro e w2 ⟨rfl,q2,rfl⟩;go_wp2_with fail;have f1:=FrR.start w (q1+q2) (I7 op ((r:Int)+8) ((r:Int)+8) 0 0 0 0);refine (CB.out _).mono ?_;rintro e w3 ⟨rfl,hq⟩;have f2:=f1.call (kd hq);clear f1 hq;go_wp2_with fail;refine zAC 7 (fun w'=>FrR w (I7 op ((r:Int)+8) ((r:Int)+8) 0 0 0 0) w'∧w'.cell? ⟨20,v,none⟩=some (.int .i64 ro)) (by kernel_rfl) (by decide) ⟨f2.call (Kp.refl _ _).drew,hx.out _ (f2.kp.drew)⟩ (fun hH=>?_);refine zC (i:=0) (v:=?_) rfl (by kernel_rfl) (fun _ _ _ h=>h) (Or.inl ⟨by rfl,?hy⟩) hH ?_
 case hy=>(intro w hSw;(try dsimp only at hSw);go_split_ands;go_simp;try (with_reducible rfl))
 (try simp only [Act.put,qa])
 refine zC (i:=4) (v:=?_) rfl (by kernel_rfl) (fun _ _ _ h=>h) (Or.inl ⟨by rfl,?hy⟩) hH ?_
 case hy=>(intro w hSw;(try dsimp only at hSw);go_split_ands;go_simp;try (with_reducible rfl))
 (try simp only [Act.put,qa])
 refine zo (i:=1) rfl (by kernel_rfl) (fun K hK=>?_);go_simp;refine (CR.out _).mono ?_;rintro e w2 ⟨rfl,hq⟩;refine hK.out _ _ ?_ (fun hH=>?_)
 ·exact ⟨hH.1.call (kd hq),hx.out _ (hH.1.call (kd hq)).kp⟩
 clear hK K;(try simp only [Act.put,qa])
 refine zC (i:=2) (v:=?_) rfl (by kernel_rfl) (fun _ _ _ h=>h) (Or.inl ⟨by rfl,?hy⟩) hH ?_
 case hy=>(intro w hSw;(try dsimp only at hSw);go_split_ands;go_simp;try (with_reducible rfl))
 (try simp only [Act.put,qa])
 refine zC (i:=3) (v:=?_) rfl (by kernel_rfl) (fun _ _ _ h=>h) (Or.inl ⟨by rfl,?hy⟩) hH ?_
 case hy=>(intro w hSw;(try dsimp only at hSw);go_split_ands;go_simp;try (with_reducible rfl))
 (try simp only [Act.put,qa])
 refine zC (i:=6) (v:=?_) rfl (by kernel_rfl) (fun _ _ _ h=>h) (Or.inl ⟨by rfl,?hy⟩) hH ?_
 case hy=>(intro w hSw;(try dsimp only at hSw);go_split_ands;go_simp;try (with_reducible rfl))
 (try simp only [Act.put,qa])
 refine zo (i:=5) rfl (by kernel_rfl) (fun K hK=>?_);go_simp;refine (C2.out _).mono ?_;rintro e w2 ⟨rfl,hq⟩;refine hK.out _ _ ?_ (fun hH=>?_)
 ·exact ⟨hH.1.call (kd hq),hx.out _ (hH.1.call (kd hq)).kp⟩
 clear hK K;(try simp only [Act.put,qa])
 refine ⟨by kernel_rfl,?_⟩;simp only [List.drop_succ_cons,List.drop_zero];obtain ⟨f3,-⟩:=hH;obtain ⟨b0,b1,b2,b3,b4,b5,b6⟩:=f3.box.seven;have z:=f3.box.free;obtain ⟨q0,q1,q2,q3,q4,q5,q6⟩:=f3.res.seven;have y:=f3.res.free;go_wp2;have g:=(f3.set 0 (.int .i64 ro)).set 3 (.int .i64 ((r2:Int)+8));refine zzb (Td.zAA rfl _ _ w.heap.size rfl (g.res.zA _ _ _ _ _ _ _) rfl) rfl ⟨rfl,?_⟩;exact g.kp.zA (zzr _) _ _ _ _ _ _ _
theorem zAM (s g k:Nat) (w:World) (hs:s<65536) (hT:zEu w) (hg:pc s 0 2=g) (hk:pc s 13 3=k) (hop:opsT.getD (g*8+k) 0=0):Calls prog 170 #[.int .u16 s] w fun e w'=>e=.returned (.agg (I7 0 0 0 0 0 0 0))∧Kp none w w':=by
 have CG:=hid (fun w=>zFJ s g w hs hg);have CK:=hid (fun w=>zAZ s k w hs hk);have g1:(g:Int)<4:=by have:=zF s 0 2;simp only [Nat.reducePow] at this;omega
 have k1:(k:Int)<8:=by have:=zF s 13 3;simp only [Nat.reducePow] at this;omega
 have g0:(0:Int)≤(g:Int):=by omega
 have k0:(0:Int)≤(k:Int):=by omega
 have HR:=hid hT.o;have hx:=hid (fun (w':World) (kk:Kp none w w')=>(show w'.cell? ⟨0,g*8+k,none⟩=some (.int .i64 0) by rw [← hop];exact (HR.out.kp kk) (g*8+k) (by show g*8+k<32;omega)));clear hT HR hs hg hk hop;have k2:=(Kp.refl none w).alloc (I7 0 0 0 0 0 0 0) 38;have b2:=Has.new w (I7 0 0 0 0 0 0 0) 38;go_enter func170,ntmps170;go_wp2_with fail;refine zAC 7 (fun w'=>Kp none w w'∧Has w' w.heap.size 38 (I7 0 0 0 0 0 0 0)∧w'.cell? ⟨0,g*8+k,none⟩=some (.int .i64 0)) (by kernel_rfl) (by decide) ⟨k2.drew,b2.drew,hx.out _ k2.drew⟩ (fun hH=>?_);refine zC (i:=0) (v:=?_) rfl (by kernel_rfl) (fun _ _ _ h=>h) (Or.inl ⟨by rfl,?hy⟩) hH ?_
 case hy=>(intro w hSw;(try dsimp only at hSw);go_split_ands;go_simp;try (with_reducible rfl))
 (try simp only [Act.put,qa])
 refine zC (i:=2) (v:=?_) rfl (by kernel_rfl) (fun _ _ _ h=>h) (Or.inl ⟨by rfl,?hy⟩) hH ?_
 case hy=>(intro w hSw;(try dsimp only at hSw);go_split_ands;go_simp;try (with_reducible rfl))
 (try simp only [Act.put,qa])
 refine zo (i:=1) rfl (by kernel_rfl) (fun K hK=>?_);go_simp;refine (CG.out _).mono ?_;rintro e w2 ⟨rfl,hq⟩;refine hK.out _ _ ?_ (fun hH=>?_)
 ·exact ⟨hH.1.trans (kd hq),hH.2.1.kp (kd hq) (by simp),hx.out _ (hH.1.trans (kd hq))⟩
 clear hK K;(try simp only [Act.put,qa])
 refine zC (i:=4) (v:=?_) rfl (by kernel_rfl) (fun _ _ _ h=>h) (Or.inl ⟨by rfl,?hy⟩) hH ?_
 case hy=>(intro w hSw;(try dsimp only at hSw);go_split_ands;go_simp;try (with_reducible rfl))
 (try simp only [Act.put,qa])
 refine zo (i:=3) rfl (by kernel_rfl) (fun K hK=>?_);go_simp;refine (CK.out _).mono ?_;rintro e w2 ⟨rfl,hq⟩;refine hK.out _ _ ?_ (fun hH=>?_)
 ·exact ⟨hH.1.trans (kd hq),hH.2.1.kp (kd hq) (by simp),hx.out _ (hH.1.trans (kd hq))⟩
 clear hK K;(try simp only [Act.put,qa])
 refine zC (i:=5) (v:=?_) rfl (by kernel_rfl) (fun _ _ _ h=>h) (Or.inl ⟨by rfl,?hy⟩) hH ?_
 case hy=>(intro w hSw;(try dsimp only at hSw);go_split_ands;go_simp;try (with_reducible rfl))
 (try simp only [Act.put,qa])
 refine zC (i:=6) (v:=?_) rfl (by kernel_rfl) (fun _ _ _ h=>h) (Or.inl ⟨by rfl,?hy⟩) hH ?_
 case hy=>(intro w hSw;(try dsimp only at hSw);go_split_ands;go_simp;try (with_reducible rfl))
 (try simp only [Act.put,qa])
 refine ⟨by kernel_rfl,?_⟩;simp only [List.drop_succ_cons,List.drop_zero];obtain ⟨k3,b3,-⟩:=hH;clear hx;obtain ⟨q0,q1,q2,q3,q4,q5,q6⟩:=b3.seven;have y:=b3.free;go_wp2;refine zzb (Td.zAA rfl _ _ w.heap.size rfl (b3.zA _ _ _ _ _ _ _) rfl) rfl ⟨rfl,?_⟩;exact k3.zA (zzr _) _ _ _ _ _ _ _
theorem zHU (s g k:Nat) (op:Int) (w:World) (hs:s<65536) (hT:zEu w) (hg:pc s 0 2=g) (hk:pc s 13 3=k) (hop:opsT.getD (g*8+k) 0=op) (h0:(op==0)=false) (a0 a1 a2 a3 a4 a5 a6:Int) (h:((((g:Int)==0)=true)∧(∀ w',Kp none w w'→Calls prog 192 #[.int .u16 s,.int .i64 op] w' fun e w''=>e=.returned (.agg (I7 a0 a1 a2 a3 a4 a5 a6))∧Kp none w' w''))∨((((g:Int)==0)=false)∧(((g:Int)==1)=true)∧(∀ w',Kp none w w'→Calls prog 193 #[.int .u16 s,.int .i64 op] w' fun e w''=>e=.returned (.agg (I7 a0 a1 a2 a3 a4 a5 a6))∧Kp none w' w''))∨((((g:Int)==0)=false)∧(((g:Int)==1)=false)∧(∀ w',Kp none w w'→Calls prog 194 #[.int .u16 s,.int .i64 op] w' fun e w''=>e=.returned (.agg (I7 a0 a1 a2 a3 a4 a5 a6))∧Kp none w' w''))):Calls prog 170 #[.int .u16 s] w fun e w'=>e=.returned (.agg (I7 a0 a1 a2 a3 a4 a5 a6))∧Kp none w w':=by
 rcases h with ⟨t0,HM⟩|⟨t0,t1,HM⟩|⟨t0,t1,HM⟩;all_goals (
  have CG:=hid (fun w=>zFJ s g w hs hg);have CK:=hid (fun w=>zAZ s k w hs hk);have g1:(g:Int)<4:=by have:=zF s 0 2;simp only [Nat.reducePow] at this;omega
  have k1:(k:Int)<8:=by have:=zF s 13 3;simp only [Nat.reducePow] at this;omega
  have g0:(0:Int)≤(g:Int):=by omega
  have k0:(0:Int)≤(k:Int):=by omega
  have HR:=hid hT.o;have hx:=hid (fun (w':World) (kk:Kp none w w')=>(show w'.cell? ⟨0,g*8+k,none⟩=some (.int .i64 op) by rw [← hop];exact (HR.out.kp kk) (g*8+k) (by show g*8+k<32;omega)));clear hT HR hs hg hk hop;have k2:=(Kp.refl none w).alloc (I7 0 0 0 0 0 0 0) 38;have b2:=Has.new w (I7 0 0 0 0 0 0 0) 38;have CM:=hid HM;clear HM;go_enter func170,ntmps170;go_wp2_with fail;refine zAC 7 (fun w'=>Kp none w w'∧Has w' w.heap.size 38 (I7 0 0 0 0 0 0 0)∧w'.cell? ⟨0,g*8+k,none⟩=some (.int .i64 op)) (by kernel_rfl) (by decide) ⟨k2.drew,b2.drew,hx.out _ k2.drew⟩ (fun hH=>?_);refine zC (i:=0) (v:=?_) rfl (by kernel_rfl) (fun _ _ _ h=>h) (Or.inl ⟨by rfl,?hy⟩) hH ?_
  case hy=>(intro w hSw;(try dsimp only at hSw);go_split_ands;go_simp;try (with_reducible rfl))
  (try simp only [Act.put,qa])
  refine zC (i:=2) (v:=?_) rfl (by kernel_rfl) (fun _ _ _ h=>h) (Or.inl ⟨by rfl,?hy⟩) hH ?_
  case hy=>(intro w hSw;(try dsimp only at hSw);go_split_ands;go_simp;try (with_reducible rfl))
  (try simp only [Act.put,qa])
  refine zo (i:=1) rfl (by kernel_rfl) (fun K hK=>?_);go_simp;refine (CG.out _).mono ?_;rintro e w2 ⟨rfl,hq⟩;refine hK.out _ _ ?_ (fun hH=>?_)
  ·exact ⟨hH.1.trans (kd hq),hH.2.1.kp (kd hq) (by simp),hx.out _ (hH.1.trans (kd hq))⟩
  clear hK K;(try simp only [Act.put,qa])
  refine zC (i:=4) (v:=?_) rfl (by kernel_rfl) (fun _ _ _ h=>h) (Or.inl ⟨by rfl,?hy⟩) hH ?_
  case hy=>(intro w hSw;(try dsimp only at hSw);go_split_ands;go_simp;try (with_reducible rfl))
  (try simp only [Act.put,qa])
  refine zo (i:=3) rfl (by kernel_rfl) (fun K hK=>?_);go_simp;refine (CK.out _).mono ?_;rintro e w2 ⟨rfl,hq⟩;refine hK.out _ _ ?_ (fun hH=>?_)
  ·exact ⟨hH.1.trans (kd hq),hH.2.1.kp (kd hq) (by simp),hx.out _ (hH.1.trans (kd hq))⟩
  clear hK K;(try simp only [Act.put,qa])
  refine zC (i:=5) (v:=?_) rfl (by kernel_rfl) (fun _ _ _ h=>h) (Or.inl ⟨by rfl,?hy⟩) hH ?_
  case hy=>(intro w hSw;(try dsimp only at hSw);go_split_ands;go_simp;try (with_reducible rfl))
  (try simp only [Act.put,qa])
  refine zC (i:=6) (v:=?_) rfl (by kernel_rfl) (fun _ _ _ h=>h) (Or.inl ⟨by rfl,?hy⟩) hH ?_
  case hy=>(intro w hSw;(try dsimp only at hSw);go_split_ands;go_simp;try (with_reducible rfl))
  (try simp only [Act.put,qa])
  refine ⟨by kernel_rfl,?_⟩;simp only [List.drop_succ_cons,List.drop_zero];obtain ⟨k3,b3,-⟩:=hH;clear hx;have HK:=hid k3;have HB:=hid b3;clear k3 b3;go_wp2_with fail;refine (CG.out _).mono ?_;rintro e w4 ⟨rfl,hq⟩;have k3:=HK.out.trans (kd hq);have b3:=HB.out.kp (kd hq) (by simp);clear HK HB hq;have HK:=hid k3;have HB:=hid b3;clear k3 b3;go_wp2_with fail;refine (CM.out _ HK.out).mono ?_;rintro e w5 ⟨rfl,hq⟩;have k3:=HK.out.trans hq;have b3:=HB.out.kp hq (by simp);clear HK HB hq CM CK CG;obtain ⟨q0,q1,q2,q3,q4,q5,q6⟩:=b3.seven;have y:=b3.free;go_wp2;refine zzb (Td.zAA rfl _ _ w.heap.size rfl (b3.zA _ _ _ _ _ _ _) rfl) rfl ⟨rfl,?_⟩;exact k3.zA (zzr _) _ _ _ _ _ _ _)
def zBd (s g k:Nat) (op:Int) (w:World) (hs:s<65536) (hT:zEu w) (hg:pc s 0 2=g) (hk:pc s 13 3=k) (hop:opsT.getD (g*8+k) 0=op) (h0:(op==0)=false) (t0:((g:Int)==0)=true) (a0 a1 a2 a3 a4 a5 a6:Int) (HM:∀ w',Kp none w w'→Calls prog 192 #[.int .u16 s,.int .i64 op] w' fun e w''=>e=.returned (.agg (I7 a0 a1 a2 a3 a4 a5 a6))∧Kp none w' w''):=zHU s g k op w hs hT hg hk hop h0 a0 a1 a2 a3 a4 a5 a6 (.inl ⟨t0,HM⟩)
def ze (s g k:Nat) (op:Int) (w:World) (hs:s<65536) (hT:zEu w) (hg:pc s 0 2=g) (hk:pc s 13 3=k) (hop:opsT.getD (g*8+k) 0=op) (h0:(op==0)=false) (t0:((g:Int)==0)=false) (t1:((g:Int)==1)=true) (a0 a1 a2 a3 a4 a5 a6:Int) (HM:∀ w',Kp none w w'→Calls prog 193 #[.int .u16 s,.int .i64 op] w' fun e w''=>e=.returned (.agg (I7 a0 a1 a2 a3 a4 a5 a6))∧Kp none w' w''):=zHU s g k op w hs hT hg hk hop h0 a0 a1 a2 a3 a4 a5 a6 (.inr (.inl ⟨t0,t1,HM⟩))
def zy (s g k:Nat) (op:Int) (w:World) (hs:s<65536) (hT:zEu w) (hg:pc s 0 2=g) (hk:pc s 13 3=k) (hop:opsT.getD (g*8+k) 0=op) (h0:(op==0)=false) (t0:((g:Int)==0)=false) (t1:((g:Int)==1)=false) (a0 a1 a2 a3 a4 a5 a6:Int) (HM:∀ w',Kp none w w'→Calls prog 194 #[.int .u16 s,.int .i64 op] w' fun e w''=>e=.returned (.agg (I7 a0 a1 a2 a3 a4 a5 a6))∧Kp none w' w''):=zHU s g k op w hs hT hg hk hop h0 a0 a1 a2 a3 a4 a5 a6 (.inr (.inr (⟨t0,t1,HM⟩)))
structure Sh where
 op:Int
 rd:Int
 r1:Int
 r2:Int
 im:Int
deriving DecidableEq
abbrev Sh.cells (i:Sh) (sz:Int):Array Value:=I7 i.op i.rd i.r1 i.r2 i.im 0 sz
def Sh.zero:Sh:=⟨0,0,0,0,0⟩
def zCP (s:Nat):Sh:=
 if pc s 10 2=0 then ⟨29,(pc s 7 3:Nat)+8,(pc s 7 3:Nat)+8,0,(zN s:Nat)⟩
 else if pc s 10 2=1 then ⟨30,(pc s 7 3:Nat)+8,(pc s 7 3:Nat)+8,0,(zN s:Nat)⟩
 else if pc s 10 2=2 then ⟨27,(pc s 7 3:Nat)+8,(pc s 7 3:Nat)+8,0,low (zN s:Nat) 6⟩
 else ⟨recT.getD (zCH s) 0,(pc s 7 3:Nat)+8,(pc s 7 3:Nat)+8,(pc s 2 3:Nat)+8,0⟩
def zDF (s:Nat):Sh:=
  if pc s 2 5 = 0 then
    (if pc s 7 5 = 0 then (if pc s 12 1 = 1 then ⟨88,0,0,0,0⟩ else Sh.zero)
     else (if pc s 12 1 = 1 then ⟨4,1,(pc s 7 5:Nat),0,0⟩ else ⟨4,0,(pc s 7 5:Nat),0,0⟩))
  else (if pc s 12 1 = 1 then ⟨31,(pc s 7 5:Nat),(pc s 7 5:Nat),(pc s 2 5:Nat),0⟩ else ⟨31,(pc s 7 5:Nat),0,(pc s 2 5:Nat),0⟩)
def zDw (s:Nat):Sh:=
 if low (zN s:Nat) 6=0 then Sh.zero
 else if pc s 7 5=2 then ⟨22,2,2,0,low (zAN s:Nat) 10⟩
 else ⟨1,(pc s 7 5:Nat),0,0,low (zN s:Nat) 6*4096⟩
def ex (s:Nat):Sh:=
 match pc s 0 2*8+pc s 13 3 with
 | 0=>if zAa s=0 then Sh.zero else ⟨22,(pc s 2 3:Nat)+8,2,0,(zAa s:Nat)⟩
 | 2=>⟨13,(pc s 2 3:Nat)+8,(pc s 7 3:Nat)+8,0,(zBL s:Nat)⟩
 | 3=>⟨14,(pc s 2 3:Nat)+8,(pc s 7 3:Nat)+8,0,(zAH s:Nat)⟩
 | 6=>⟨20,0,(pc s 7 3:Nat)+8,(pc s 2 3:Nat)+8,(zBL s:Nat)⟩
 | 7=>⟨21,0,(pc s 7 3:Nat)+8,(pc s 2 3:Nat)+8,(zAH s:Nat)⟩
 | 8=>⟨22,(pc s 7 5:Nat),(pc s 7 5:Nat),0,low (zN s:Nat) 6⟩
 | 9=>if pc s 7 5=0 then Sh.zero else ⟨41,(pc s 7 5:Nat),(pc s 7 5:Nat),0,low (zN s:Nat) 6⟩
 | 10=>⟨22,(pc s 7 5:Nat),0,0,low (zN s:Nat) 6⟩
 | 11=>zDw s
 | 12=>zCP s
 | 13=>⟨3,0,0,0,low (zCr s:Nat) 12⟩
 | 14=>⟨5,0,(pc s 7 3:Nat)+8,0,low (zz s:Nat) 9⟩
 | 15=>⟨6,0,(pc s 7 3:Nat)+8,0,low (zz s:Nat) 9⟩
 | 16=>⟨28,(pc s 7 5:Nat),(pc s 7 5:Nat),0,(zN s:Nat)⟩
 | 18=>if pc s 7 5=0 then Sh.zero else ⟨13,(pc s 7 5:Nat),2,0,(zDs s:Nat)⟩
 | 19=>if pc s 7 5=0 then Sh.zero else ⟨14,(pc s 7 5:Nat),2,0,(zDt s:Nat)⟩
 | 20=>zDF s
 | 22=>⟨20,0,2,(pc s 2 5:Nat),(zCI s:Nat)⟩
 | 23=>⟨21,0,2,(pc s 2 5:Nat),(zCJ s:Nat)⟩
 | _=>Sh.zero
theorem top_bit (s k:Nat) (hk:pc s 13 3=k):pc s 15 1=k/4:=by subst hk;unfold pc;omega
theorem dbl_bit (s k:Nat) (hk:pc s 13 3=k):pc s 13 1=k%2:=by subst hk;unfold pc;omega
theorem ne0 {v:Nat} (h:¬ v=0):((v:Int)==0)=false:=by simp;omega
theorem ne0' {v:Nat} (h:¬ v=0):((v:Int) != 0)=true:=by simp;omega
theorem bit2 (s:Nat) (h:¬ pc s 12 1=1):pc s 12 1=0:=by have:=zF s 12 1;simp only [Nat.reducePow] at this;omega
theorem zBz (s:Nat) (w:World) (hs:s<65536) (hT:zEu w):Calls prog 170 #[.int .u16 s] w fun e w'=>e=.returned (.agg ((ex s).cells 0))∧Kp none w w':=by
 have hg:=zF s 0 2;have hk:=zF s 13 3;simp only [Nat.reducePow] at hg hk;have hE:ex s=ex s:=rfl
 conv at hE=>rhs;unfold ex
 obtain ⟨g,eg⟩:∃ g,pc s 0 2=g:=⟨_,rfl⟩;obtain ⟨k,ek⟩:∃ k,pc s 13 3=k:=⟨_,rfl⟩;have e15:=top_bit s k ek;have e13:=dbl_bit s k ek;rw [eg] at hg hE;rw [ek] at hk hE;have hgs:g=0∨g=1∨g=2∨g=3:=by omega
 have hks:k=0∨k=1∨k=2∨k=3∨k=4∨k=5∨k=6∨k=7:=by omega
 clear hg hk;rcases hgs with rfl|rfl|rfl|rfl
 ·rcases hks with rfl|rfl|rfl|rfl|rfl|rfl|rfl|rfl
  ·by_cases h:zAa s=0
   ·have hE2:ex s=Sh.zero:=by rw [hE];exact if_pos h
    rw [hE2];exact (zBd s 0 0 22 w hs hT eg ek rfl (by decide) (by decide) _ _ _ _ _ _ _ (fun w' kw=>small_none s 22 w' hs ek h))
   ·have hE2:ex s=⟨22,(pc s 2 3:Nat)+8,2,0,(zAa s:Nat)⟩:=by rw [hE];exact if_neg h
    rw [hE2];exact (zBd s 0 0 22 w hs hT eg ek rfl (by decide) (by decide) _ _ _ _ _ _ _ (fun w' kw=>small_add s 22 w' hs ek (ne0 h)))
  ·rw [hE];exact (zAM s 0 1 w hs hT eg ek rfl)
  ·rw [hE];exact (zBd s 0 2 13 w hs hT eg ek rfl (by decide) (by decide) _ _ _ _ _ _ _ (fun w' kw=>zGg s 13 w' hs 2 ek (by decide) e15 _ (fun w''=>zJB s w'' hs e13)))
  ·rw [hE];exact (zBd s 0 3 14 w hs hT eg ek rfl (by decide) (by decide) _ _ _ _ _ _ _ (fun w' kw=>zGg s 14 w' hs 3 ek (by decide) e15 _ (fun w''=>zJC s w'' hs e13)))
  ·rw [hE];exact (zAM s 0 4 w hs hT eg ek rfl)
  ·rw [hE];exact (zAM s 0 5 w hs hT eg ek rfl)
  ·rw [hE];exact (zBd s 0 6 20 w hs hT eg ek rfl (by decide) (by decide) _ _ _ _ _ _ _ (fun w' kw=>zFe s 20 w' hs 6 ek (by decide) e15 _ (fun w''=>zJB s w'' hs e13)))
  ·rw [hE];exact (zBd s 0 7 21 w hs hT eg ek rfl (by decide) (by decide) _ _ _ _ _ _ _ (fun w' kw=>zFe s 21 w' hs 7 ek (by decide) e15 _ (fun w''=>zJC s w'' hs e13)))
 ·rcases hks with rfl|rfl|rfl|rfl|rfl|rfl|rfl|rfl
  ·rw [hE];exact (ze s 1 0 22 w hs hT eg ek rfl (by decide) (by decide) (by decide) _ _ _ _ _ _ _ (fun w' kw=>constant_addi s w' hs ek))
  ·by_cases h:pc s 7 5=0
   ·have hE2:ex s=Sh.zero:=by rw [hE];exact if_pos h
    rw [hE2];exact (ze s 1 1 41 w hs hT eg ek rfl (by decide) (by decide) (by decide) _ _ _ _ _ _ _ (fun w' kw=>constant_none s w' hs ek h))
   ·have hE2:ex s=⟨41,(pc s 7 5:Nat),(pc s 7 5:Nat),0,low (zN s:Nat) 6⟩:=by rw [hE];exact if_neg h
    rw [hE2];exact (ze s 1 1 41 w hs hT eg ek rfl (by decide) (by decide) (by decide) _ _ _ _ _ _ _ (fun w' kw=>constant_addiw s w' hs ek (ne0 h) (ne0' h)))
  ·rw [hE];exact (ze s 1 2 22 w hs hT eg ek rfl (by decide) (by decide) (by decide) _ _ _ _ _ _ _ (fun w' kw=>constant_li s 22 w' hs ek))
  ·have hE1:ex s=zDw s:=hE;by_cases h:low (zN s:Nat) 6=0
   ·have hE2:ex s=Sh.zero:=by rw [hE1];exact if_pos h
    rw [hE2];exact (ze s 1 3 1 w hs hT eg ek rfl (by decide) (by decide) (by decide) _ _ _ _ _ _ _ (fun w' kw=>zCV s 1 w' hs ek _ _ _ _ _ _ _ (fun w'' _=>upper_none s 1 w'' hs h)))
   ·by_cases h2:pc s 7 5=2
    ·have hE2:ex s=⟨22,2,2,0,low (zAN s:Nat) 10⟩:=by rw [hE1];unfold zDw;rw [if_neg h,if_pos h2]
     rw [hE2];exact (ze s 1 3 1 w hs hT eg ek rfl (by decide) (by decide) (by decide) _ _ _ _ _ _ _ (fun w' kw=>zCV s 1 w' hs ek _ _ _ _ _ _ _ (fun w'' _=>upper_stack s 1 w'' hs (by simpa using h) h2)))
    ·have hE2:ex s=⟨1,(pc s 7 5:Nat),0,0,low (zN s:Nat) 6*4096⟩:=by rw [hE1];unfold zDw;rw [if_neg h,if_neg h2]
     rw [hE2];exact (ze s 1 3 1 w hs hT eg ek rfl (by decide) (by decide) (by decide) _ _ _ _ _ _ _ (fun w' kw=>zCV s 1 w' hs ek _ _ _ _ _ _ _ (fun w'' _=>upper_lui s 1 w'' hs (by simpa using h) (by simp;omega))))
  ·have hE1:ex s=zCP s:=hE;have hj:=zF s 10 2;simp only [Nat.reducePow] at hj;by_cases j0:pc s 10 2=0
   ·have hE2:ex s=⟨29,(pc s 7 3:Nat)+8,(pc s 7 3:Nat)+8,0,(zN s:Nat)⟩:=by rw [hE1];exact if_pos j0
    rw [hE2];exact (ze s 1 4 27 w hs hT eg ek rfl (by decide) (by decide) (by decide) _ _ _ _ _ _ _ (fun w' kw=>zBR s 27 w' hs ek _ _ _ _ _ _ _ (fun w'' _=>reckon_srli s 27 w'' hs j0)))
   by_cases j1:pc s 10 2=1
   ·have hE2:ex s=⟨30,(pc s 7 3:Nat)+8,(pc s 7 3:Nat)+8,0,(zN s:Nat)⟩:=by rw [hE1];unfold zCP;rw [if_neg j0,if_pos j1]
    rw [hE2];exact (ze s 1 4 27 w hs hT eg ek rfl (by decide) (by decide) (by decide) _ _ _ _ _ _ _ (fun w' kw=>zBR s 27 w' hs ek _ _ _ _ _ _ _ (fun w'' _=>reckon_srai s 27 w'' hs j1)))
   by_cases j2:pc s 10 2=2
   ·have hE2:ex s=⟨27,(pc s 7 3:Nat)+8,(pc s 7 3:Nat)+8,0,low (zN s:Nat) 6⟩:=by rw [hE1];unfold zCP;rw [if_neg j0,if_neg j1,if_pos j2]
    rw [hE2];exact (ze s 1 4 27 w hs hT eg ek rfl (by decide) (by decide) (by decide) _ _ _ _ _ _ _ (fun w' kw=>zBR s 27 w' hs ek _ _ _ _ _ _ _ (fun w'' _=>reckon_andi s 27 w'' hs j2)))
   have hE2:ex s=⟨recT.getD (zCH s) 0,(pc s 7 3:Nat)+8,(pc s 7 3:Nat)+8,(pc s 2 3:Nat)+8,0⟩:=by rw [hE1];unfold zCP;rw [if_neg j0,if_neg j1,if_neg j2]
   rw [hE2];exact (ze s 1 4 27 w hs hT eg ek rfl (by decide) (by decide) (by decide) _ _ _ _ _ _ _ (fun w' kw=>zBR s 27 w' hs ek _ _ _ _ _ _ _ (fun w'' kw2=>reckon_two s 27 w'' hs (by omega) ((hT.kp kw).kp kw2))))
  ·rw [hE];exact (ze s 1 5 3 w hs hT eg ek rfl (by decide) (by decide) (by decide) _ _ _ _ _ _ _ (fun w' kw=>constant_jump s 3 w' hs ek))
  ·rw [hE];exact (ze s 1 6 5 w hs hT eg ek rfl (by decide) (by decide) (by decide) _ _ _ _ _ _ _ (fun w' kw=>constant_beq s w' hs ek))
  ·rw [hE];exact (ze s 1 7 6 w hs hT eg ek rfl (by decide) (by decide) (by decide) _ _ _ _ _ _ _ (fun w' kw=>constant_bne s w' hs ek))
 ·rcases hks with rfl|rfl|rfl|rfl|rfl|rfl|rfl|rfl
  ·rw [hE];exact (zy s 2 0 28 w hs hT eg ek rfl (by decide) (by decide) (by decide) _ _ _ _ _ _ _ (fun w' kw=>whole_shift s 28 w' hs ek))
  ·rw [hE];exact (zAM s 2 1 w hs hT eg ek rfl)
  ·by_cases h:pc s 7 5=0
   ·have hE2:ex s=Sh.zero:=by rw [hE];exact if_pos h
    rw [hE2];exact (zy s 2 2 13 w hs hT eg ek rfl (by decide) (by decide) (by decide) _ _ _ _ _ _ _ (fun w' kw=>zGY s 13 w' hs 2 ek (by decide) (by decide) e15 h))
   ·have hE2:ex s=⟨13,(pc s 7 5:Nat),2,0,(zDs s:Nat)⟩:=by rw [hE];exact if_neg h
    rw [hE2];exact (zy s 2 2 13 w hs hT eg ek rfl (by decide) (by decide) (by decide) _ _ _ _ _ _ _ (fun w' kw=>zGZ s 13 w' hs 2 ek (by decide) (by decide) e15 _ (fun w''=>loadOffset_w s w'' hs e13) (ne0 h) (ne0' h)))
  ·by_cases h:pc s 7 5=0
   ·have hE2:ex s=Sh.zero:=by rw [hE];exact if_pos h
    rw [hE2];exact (zy s 2 3 14 w hs hT eg ek rfl (by decide) (by decide) (by decide) _ _ _ _ _ _ _ (fun w' kw=>zGY s 14 w' hs 3 ek (by decide) (by decide) e15 h))
   ·have hE2:ex s=⟨14,(pc s 7 5:Nat),2,0,(zDt s:Nat)⟩:=by rw [hE];exact if_neg h
    rw [hE2];exact (zy s 2 3 14 w hs hT eg ek rfl (by decide) (by decide) (by decide) _ _ _ _ _ _ _ (fun w' kw=>zGZ s 14 w' hs 3 ek (by decide) (by decide) e15 _ (fun w''=>loadOffset_d s w'' hs e13) (ne0 h) (ne0' h)))
  ·have hE1:ex s=zDF s:=hE;by_cases h2:pc s 2 5=0
   ·by_cases hr:pc s 7 5=0
    ·by_cases hb:pc s 12 1=1
     ·skip
      have hE2:ex s=⟨88,0,0,0,0⟩:=by rw [hE1];unfold zDF;rw [if_pos h2,if_pos hr,if_pos hb]
      rw [hE2];exact (zy s 2 4 31 w hs hT eg ek rfl (by decide) (by decide) (by decide) _ _ _ _ _ _ _ (fun w' kw=>zBp s 31 w' hs ek _ _ _ _ _ _ _ (fun w'' _=>move_break s 31 w'' hs hb h2 hr)))
     ·skip
      have hE2:ex s=Sh.zero:=by rw [hE1];unfold zDF;rw [if_pos h2,if_pos hr,if_neg hb]
      rw [hE2];exact (zy s 2 4 31 w hs hT eg ek rfl (by decide) (by decide) (by decide) _ _ _ _ _ _ _ (fun w' kw=>zBp s 31 w' hs ek _ _ _ _ _ _ _ (fun w'' _=>move_none s 31 w'' hs (bit2 s hb) h2 hr)))
    ·by_cases hb:pc s 12 1=1
     ·skip
      have hE2:ex s=⟨4,1,(pc s 7 5:Nat),0,0⟩:=by rw [hE1];unfold zDF;rw [if_pos h2,if_neg hr,if_pos hb]
      rw [hE2];exact (zy s 2 4 31 w hs hT eg ek rfl (by decide) (by decide) (by decide) _ _ _ _ _ _ _ (fun w' kw=>zBp s 31 w' hs ek _ _ _ _ _ _ _ (fun w'' _=>move_jalr s 31 w'' hs hb h2 (ne0 hr) (ne0' hr))))
     ·skip
      have hE2:ex s=⟨4,0,(pc s 7 5:Nat),0,0⟩:=by rw [hE1];unfold zDF;rw [if_pos h2,if_neg hr,if_neg hb]
      rw [hE2];exact (zy s 2 4 31 w hs hT eg ek rfl (by decide) (by decide) (by decide) _ _ _ _ _ _ _ (fun w' kw=>zBp s 31 w' hs ek _ _ _ _ _ _ _ (fun w'' _=>move_jr s 31 w'' hs (bit2 s hb) h2 (ne0 hr) (ne0' hr))))
   ·by_cases hb:pc s 12 1=1
    ·skip
     have hE2:ex s=⟨31,(pc s 7 5:Nat),(pc s 7 5:Nat),(pc s 2 5:Nat),0⟩:=by rw [hE1];unfold zDF;rw [if_neg h2,if_pos hb]
     rw [hE2];exact (zy s 2 4 31 w hs hT eg ek rfl (by decide) (by decide) (by decide) _ _ _ _ _ _ _ (fun w' kw=>zBp s 31 w' hs ek _ _ _ _ _ _ _ (fun w'' _=>move_add s 31 w'' hs hb (ne0 h2) (ne0' h2))))
    ·skip
     have hE2:ex s=⟨31,(pc s 7 5:Nat),0,(pc s 2 5:Nat),0⟩:=by rw [hE1];unfold zDF;rw [if_neg h2,if_neg hb]
     rw [hE2];exact (zy s 2 4 31 w hs hT eg ek rfl (by decide) (by decide) (by decide) _ _ _ _ _ _ _ (fun w' kw=>zBp s 31 w' hs ek _ _ _ _ _ _ _ (fun w'' _=>move_mv s 31 w'' hs (bit2 s hb) (ne0 h2) (ne0' h2))))
  ·rw [hE];exact (zAM s 2 5 w hs hT eg ek rfl)
  ·rw [hE];exact (zy s 2 6 20 w hs hT eg ek rfl (by decide) (by decide) (by decide) _ _ _ _ _ _ _ (fun w' kw=>zFW s 20 w' hs 6 ek (by decide) (by decide) e15 _ (fun w''=>storeOffset_w s w'' hs e13)))
  ·rw [hE];exact (zy s 2 7 21 w hs hT eg ek rfl (by decide) (by decide) (by decide) _ _ _ _ _ _ _ (fun w' kw=>zFW s 21 w' hs 7 ek (by decide) (by decide) e15 _ (fun w''=>storeOffset_d s w'' hs e13)))
 ·rcases hks with rfl|rfl|rfl|rfl|rfl|rfl|rfl|rfl
  ·rw [hE];exact (zAM s 3 0 w hs hT eg ek rfl)
  ·rw [hE];exact (zAM s 3 1 w hs hT eg ek rfl)
  ·rw [hE];exact (zAM s 3 2 w hs hT eg ek rfl)
  ·rw [hE];exact (zAM s 3 3 w hs hT eg ek rfl)
  ·rw [hE];exact (zAM s 3 4 w hs hT eg ek rfl)
  ·rw [hE];exact (zAM s 3 5 w hs hT eg ek rfl)
  ·rw [hE];exact (zAM s 3 6 w hs hT eg ek rfl)
  ·rw [hE];exact (zAM s 3 7 w hs hT eg ek rfl)
variable {fn:Func} {u:Tmp}
theorem zAE {p:Tmp} (h:fn.results=#[.cell p 38,.tmp u]) (tmps:Array Value) (w:World) (g:Nat) (v0 v1 v2 v3 v4 v5 v6:Value)
 (hp:tmps.getD p undef=.pointer (some ⟨g,0,none⟩)) (hg:Has w g 38 #[v0,v1,v2,v3,v4,v5,v6]):
  (results fn tmps).run prog w=.ok (.tuple #[.agg #[v0,v1,v2,v3,v4,v5,v6],tmps.getD u undef]) w:=by
 have hr:=run_loadVar_row (P:=prog) w g 38 38 #[v0,v1,v2,v3,v4,v5,v6] (0,0) _ hg underlying38 rfl (by kernel_rfl);rw [results_cell_tmp h,hp];simp [asAddr,Result.andThen,hr]
def exI (s:Nat):Array Value:=if (ex s).op=0 then I7 0 0 0 0 0 0 0 else (ex s).cells 2
def exB (s:Nat):Bool:=decide ((ex s).op≠0)
theorem expand_no (s:Nat) (op rd r1 r2 im:Int) (w:World) (ho:op=0) (HI:∀ w',Kp none w w'→Calls prog 170 #[.int .u16 s] w' fun e w''=>e=.returned (.agg (I7 op rd r1 r2 im 0 0))∧Kp none w' w'') :
  Calls prog 151 #[.int .u16 s] w fun e w'=>e=.returned (.tuple #[.agg (I7 0 0 0 0 0 0 0),.bool false])∧Kp none w w':=by
 subst ho;have CI:=hid HI;clear HI;have k:=(Kp.refl none w).alloc (I7 0 0 0 0 0 0 0) 38;have b:=Has.new w (I7 0 0 0 0 0 0 0) 38;have HK:=hid k;have HB:=hid b;clear k b;go_enter func151,ntmps151;go_wp2_with fail;refine (CI.out _ HK.out).mono ?_;rintro e w1 ⟨rfl,hq⟩;have k:=(HK.out.trans hq);have b:=HB.out.kp hq (by simp);clear HK HB hq CI;have hlt:w.heap.size<w1.heap.size:=b.lt;have hne:w.heap.size≠w1.heap.size:=by omega
 have hne':w1.heap.size≠w.heap.size:=by omega
 obtain ⟨q0,q1,q2,q3,q4,q5,q6⟩:=b.seven;have y:=b.free;go_wp2;refine zzb (zAE rfl _ _ w.heap.size _ _ _ _ _ _ _ rfl ((b.zA _ _ _ _ _ _ _).alloc _)) rfl ⟨rfl,?_⟩;exact (k.zA (zzr _) _ _ _ _ _ _ _).alloc _ _
theorem expand_yes (s:Nat) (op rd r1 r2 im:Int) (w:World) (ho:(op==0)=false) (HI:∀ w',Kp none w w'→Calls prog 170 #[.int .u16 s] w' fun e w''=>e=.returned (.agg (I7 op rd r1 r2 im 0 0))∧Kp none w' w'') :
  Calls prog 151 #[.int .u16 s] w fun e w'=>e=.returned (.tuple #[.agg (I7 op rd r1 r2 im 0 2),.bool true])∧Kp none w w':=by
 skip
 have CI:=hid HI;clear HI;have k:=(Kp.refl none w).alloc (I7 0 0 0 0 0 0 0) 38;have b:=Has.new w (I7 0 0 0 0 0 0 0) 38;have HK:=hid k;have HB:=hid b;clear k b;go_enter func151,ntmps151;go_wp2_with fail;refine (CI.out _ HK.out).mono ?_;rintro e w1 ⟨rfl,hq⟩;have k:=(HK.out.trans hq);have b:=HB.out.kp hq (by simp);clear HK HB hq CI;have hlt:w.heap.size<w1.heap.size:=b.lt;have hne:w.heap.size≠w1.heap.size:=by omega
 have hne':w1.heap.size≠w.heap.size:=by omega
 obtain ⟨q0,q1,q2,q3,q4,q5,q6⟩:=b.seven;have y:=b.free;go_wp2;refine zzb (zAE rfl _ _ w.heap.size _ _ _ _ _ _ _ rfl ((b.zA _ _ _ _ _ _ _).alloc _)) rfl ⟨rfl,?_⟩;exact (k.zA (zzr _) _ _ _ _ _ _ _).alloc _ _
theorem expand_any (s:Nat) (w:World) (hs:s<65536) (hT:zEu w):Calls prog 151 #[.int .u16 s] w fun e w'=>e=.returned (.tuple #[.agg (exI s),.bool (exB s)])∧Kp none w w':=by
 have HI:=fun w' (kw:Kp none w w')=>zBz s w' hs (hT.kp kw)
 unfold exI exB;generalize ex s=i at *;obtain ⟨op,rd,r1,r2,im⟩:=i;by_cases h:op=0
 ·have e1:(if (Sh.mk op rd r1 r2 im).op=0 then I7 0 0 0 0 0 0 0 else (Sh.mk op rd r1 r2 im).cells 2)=I7 0 0 0 0 0 0 0:=if_pos h;have e2:decide ((Sh.mk op rd r1 r2 im).op≠0)=false:=by simp [h]
  rw [e1,e2];exact expand_no s op rd r1 r2 im w h HI
 ·have e1:(if (Sh.mk op rd r1 r2 im).op=0 then I7 0 0 0 0 0 0 0 else (Sh.mk op rd r1 r2 im).cells 2)=I7 op rd r1 r2 im 0 2:=if_neg h;have e2:decide ((Sh.mk op rd r1 r2 im).op≠0)=true:=by simp [h]
  rw [e1,e2];exact expand_yes s op rd r1 r2 im w (by simp [h]) HI
theorem short_yes (s:Nat) (w:World) (hs:s<65536) (h:((s:Int)%4 != 3)=true):Calls prog 150 #[.int .u16 s] w fun e w'=>e=.returned (.bool true)∧Kp none w w':=by
 have h2:(((pc s 0 2:Nat):Int) != 3)=true:=by
  simp only [bne_iff_ne,ne_eq] at h ⊢
  have:pc s 0 2=s%4:=by unfold pc;simp
  omega
 have CG:=hid (fun w=>zFJ s _ w hs rfl);generalize pc s 0 2=g at *;clear h hs;go_enter func150,ntmps150;go_wp2_with fail;refine (CG.out _).mono ?_;rintro e w1 ⟨rfl,hq⟩;go_wp2;go_ret;exact ⟨rfl,kd hq⟩
theorem short_no (s:Nat) (w:World) (hs:s<65536) (h:((s:Int)%4 != 3)=false):Calls prog 150 #[.int .u16 s] w fun e w'=>e=.returned (.bool false)∧Kp none w w':=by
 have h2:pc s 0 2=3:=by
  simp only [bne_eq_false_iff_eq] at h
  have:pc s 0 2=s%4:=by unfold pc;simp
  omega
 have CG:=hid (fun w=>zFJ s 3 w hs h2);clear h hs h2;go_enter func150,ntmps150;go_wp2_with fail;refine (CG.out _).mono ?_;rintro e w1 ⟨rfl,hq⟩;go_wp2;go_ret;exact ⟨rfl,kd hq⟩
end Go.Proofs.YtlhpodholnfppaaGreatDoor.Td
namespace Go.Proofs.YtlhpodholnfppaaGreatDoor.Td
open Go.Proofs.Tryz
open Go.ChangeShapes Go.WideShapes Go.ChangeAt Go.RowKit
theorem own:ownKnob prog.godebug=none:=by kernel_rfl
variable {base fuel g m n:Nat} {t:TypeId} {W w:World}
theorem cells_of_rows {H:Type} {enc:TypeId × Value→H} {P:Program} {sp:Nat→Bool} {held:Bool} {e u:TypeId} {k:IntKind} {cs:List Value} {rows:List (List Int)} {p:List MemPlace}
 (ht:P.underlying t=some (.array n u)) (hu:P.underlying u=some (.array m e)) (he:P.underlying e=some (.int k)) (hce:P.cellsOf e=1) (hcu:P.cellsOf u=m) (hct:P.cellsOf t=n*m)
 (h:DataW.trod enc P w base sp held fuel t cs=some (.agg (rows.map (Lib.tabData k)),p)):∀ i zs,rows[i]?=some zs→(cs.drop (i*m)).take m=zs.map fun z=>Value.int k z:=by
 cases fuel with
 | zero=>simp [DataW.trod] at h
 | succ fuel =>
  simp only [DataW.trod,ht,hcu,hct] at h
  split at h
  ·rename_i hl
   obtain ⟨xs,hm,hx⟩:=Option.map_eq_some_iff.1 h;have hxs:xs.map (·.1)=rows.map (Lib.tabData (H:=H) k):=by
    have:=congrArg Prod.fst hx
    simpa using this
   have hxl:xs.length=n:=by simpa using Lib.mapM_length hm
   have hrl:rows.length=n:=by
    have:=congrArg List.length hxs
    simp at this;omega
   intro i zs hz;have hi:i<n:=by
    have:=(zzi.1 hz).1
    omega
   obtain ⟨b,hb,hf⟩:=Lib.mapM_at hm i i (by simp [hi]);have h2:(xs.map (·.1))[i]?=some b.1:=by simp [hb]
   rw [hxs] at h2;simp only [List.getElem?_map,hz,Option.map_some,Option.some.injEq] at h2;obtain ⟨b1,b2⟩:=b;dsimp only at h2;subst h2;exact Lib.cells_of_tab hu he hce hcu hf
  ·cases h
theorem rows_of_head {P:Program} {name:String} {k:IntKind} {rows:List (List Int)} {rest:List (String × DataW Unit)} {e u:TypeId} 
 (hg:P.globalNamed name=some g) (hty:(P.globals[g]?).map (·.type)=some t) (ht:P.underlying t=some (.array n u)) (hu:P.underlying u=some (.array m e)) (he:P.underlying e=some (.int k))
 (hce:P.cellsOf e=1) (hcu:P.cellsOf u=m) (hct:P.cellsOf t=n*m)
 (h:laidMet P ((name,.agg (rows.map (Lib.tabData k))) :: rest) W):∀ i zs,rows[i]?=some zs→∀ j,j<m→W.cell? ⟨g,i*m+j,none⟩=(zs.map fun z=>Value.int k z)[j]?:=by
 obtain ⟨ps,⟨g',t',cs,fuel,p,q,hg',ht',hvar,hd,_,_⟩,_⟩:=h;obtain rfl:=Option.some.inj (hg.symm.trans hg');obtain rfl:=Option.some.inj (hty.symm.trans ht');intro i zs hz j hj;have h1:=cells_of_rows ht hu he hce hcu hct hd i zs hz;rw [World.var?_cell hg hvar (i*m+j),← h1];simp [List.getElem?_drop,hj]
theorem cells3:prog.cellsOf 3=1:=by kernel_rfl
theorem zAc:prog.cellsOf 209=8:=by kernel_rfl
theorem cells45:prog.cellsOf 210=4*8:=by kernel_rfl
theorem gO : prog.globalNamed "marionette/comp.operators" = some 0 := by kernel_rfl
theorem yO:(prog.globals[0]?).map (·.type)=some 210:=by kernel_rfl
theorem gR : prog.globalNamed "marionette/comp.reckoners" = some 20 := by kernel_rfl
theorem yR:(prog.globals[20]?).map (·.type)=some 209:=by kernel_rfl
def zHy:List (List Int):=[[22,0,13,14,0,0,20,21],[22,41,22,1,27,3,5,6],[28,0,13,14,31,0,20,21],[0,0,0,0,0,0,0,0]]
theorem tabO_of {W : World} {rest : List (String × DataW Unit)} (h : laidMet prog (("marionette/comp.operators", Rows.laid_marionette_comp_operators) :: rest) W) : TabC W 0 opsT := by
 have hr:=rows_of_head (k:=.i64) (rows:=zHy) gO yO underlying210 underlying209 underlying3 cells3 zAc cells45 h;intro i hi;have hi32:i<32:=hi;have hz:∀ q,q<4→∃ zs,zHy[q]?=some zs:=fun q hq=>⟨zHy[q]'hq,zzg hq⟩
 obtain ⟨zs,hzs⟩:=hz (i/8) (by omega);have h1:=hr (i/8) zs hzs (i%8) (by omega);rw [show i/8*8+i%8=i by omega] at h1;rw [h1];have hall:∀ i,i<32→(((zHy.getD (i/8) []).map fun z=>z)[i%8]?)=some (opsT.getD i 0):=by decide
 have h2:=hall i hi32;have h3:zHy.getD (i/8) []=zs:=by simp [List.getD,hzs]
 rw [h3] at h2;simp only [List.map_id'] at h2;simp [h2]
theorem tabR_of {W : World} {rest : List (String × DataW Unit)} (h : laidMet prog (("marionette/comp.reckoners", Rows.laid_marionette_comp_reckoners) :: rest) W) : TabC W 20 recT := fun i hi =>
 (Lib.tabIs_of_head (k:=.i64) (zs:=recT) gR yR underlying209 underlying3 cells3 zAc h).cell gR i hi
end Go.Proofs.YtlhpodholnfppaaGreatDoor.Td
