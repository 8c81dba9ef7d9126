/-
  Part of the proof.
-/
import Derived.Test.YtlhpodholnfppaaGreatDoorZ13
set_option linter.unusedVariables false
set_option linter.unusedSimpArgs false
set_option maxHeartbeats 16000000
set_option maxRecDepth 100000
set_option linter.defProp false
open Go.Lib (hid)
namespace Go.Proofs.YtlhpodholnfppaaGreatDoor
open Go.Proofs.Tryz
open Go.RowKit
theorem refDo_A (op a b:Int) (w:World) (ha0:0≤a) (ha:a<18446744073709551616) (hb0:0≤b) (hb:b<18446744073709551616) (h:op=1∨op=22∨op=31∨op=32∨op=25∨op=36∨op=26∨op=39∨op=27∨op=40) :
  Calls prog 60 #[.int .i64 op,.int .u64 a,.int .u64 b] w fun e w'=>e=.returned (.tuple #[.int .u64 (doV op a b),.bool true])∧w=w':=by
 obtain ⟨k,kk⟩:=zze (show 0≤b%64 by omega);obtain ⟨j,jj⟩:=zze (show 0≤b%32 by omega);have hk:k<64:=by omega
 have hj:j<32:=by omega
 have KK:=hid kk;have JJ:=hid jj;rcases h with rfl|rfl|rfl|rfl|rfl|rfl|rfl|rfl|rfl|rfl;all_goals (
  go_enter func60,ntmps60;go_wp2;go_ret2;exact ⟨rfl,rfl⟩)
theorem refDo_B (op a b:Int) (w:World) (ha0:0≤a) (ha:a<18446744073709551616) (hb0:0≤b) (hb:b<18446744073709551616) (h:op=23∨op=34) :
  Calls prog 60 #[.int .i64 op,.int .u64 a,.int .u64 b] w fun e w'=>e=.returned (.tuple #[.int .u64 (doV op a b),.bool true])∧w=w':=by
 obtain ⟨k,kk⟩:=zze (show 0≤b%64 by omega);obtain ⟨j,jj⟩:=zze (show 0≤b%32 by omega);have hk:k<64:=by omega
 have hj:j<32:=by omega
 have KK:=hid kk;have JJ:=hid jj;rcases h with rfl|rfl;all_goals (
  go_enter func60,ntmps60;go_wp2_with fail;refine (zFE _ _ _ ha0 ha hb0 hb).mono ?_;rintro e w' ⟨rfl,rfl⟩;go_wp2_with fail;refine (zHj _ _).mono ?_;rintro e w' ⟨rfl,rfl⟩;go_wp2;go_ret2;exact ⟨rfl,rfl⟩)
theorem refDo_C (op a b:Int) (w:World) (ha0:0≤a) (ha:a<18446744073709551616) (hb0:0≤b) (hb:b<18446744073709551616) (h:op=24∨op=35) :
  Calls prog 60 #[.int .i64 op,.int .u64 a,.int .u64 b] w fun e w'=>e=.returned (.tuple #[.int .u64 (doV op a b),.bool true])∧w=w':=by
 obtain ⟨k,kk⟩:=zze (show 0≤b%64 by omega);obtain ⟨j,jj⟩:=zze (show 0≤b%32 by omega);have hk:k<64:=by omega
 have hj:j<32:=by omega
 have KK:=hid kk;have JJ:=hid jj;rcases h with rfl|rfl;all_goals (
  go_enter func60,ntmps60;go_wp2_with fail;refine (zHj _ _).mono ?_;rintro e w' ⟨rfl,rfl⟩;go_wp2;go_ret2;exact ⟨rfl,rfl⟩)
theorem refDo_D (op a b:Int) (w:World) (ha0:0≤a) (ha:a<18446744073709551616) (hb0:0≤b) (hb:b<18446744073709551616) (h:op=28∨op=33) :
  Calls prog 60 #[.int .i64 op,.int .u64 a,.int .u64 b] w fun e w'=>e=.returned (.tuple #[.int .u64 (doV op a b),.bool true])∧w=w':=by
 obtain ⟨k,kk⟩:=zze (show 0≤b%64 by omega);obtain ⟨j,jj⟩:=zze (show 0≤b%32 by omega);have hk:k<64:=by omega
 have hj:j<32:=by omega
 have KK:=hid kk;have JJ:=hid jj;rcases h with rfl|rfl;all_goals (
  go_enter func60,ntmps60;go_wp2;go_ret2;exact ⟨zAJ (by have e:(b%64).toNat=k:=(by have:=KK.out;omega);show _=IntKind.u64.wrap (a*2^(b%64).toNat);rw [e]),rfl⟩)
theorem refDo_E (op a b:Int) (w:World) (ha0:0≤a) (ha:a<18446744073709551616) (hb0:0≤b) (hb:b<18446744073709551616) (h:op=29∨op=37) :
  Calls prog 60 #[.int .i64 op,.int .u64 a,.int .u64 b] w fun e w'=>e=.returned (.tuple #[.int .u64 (doV op a b),.bool true])∧w=w':=by
 obtain ⟨k,kk⟩:=zze (show 0≤b%64 by omega);obtain ⟨j,jj⟩:=zze (show 0≤b%32 by omega);have hk:k<64:=by omega
 have hj:j<32:=by omega
 have KK:=hid kk;have JJ:=hid jj;rcases h with rfl|rfl;all_goals (
  go_enter func60,ntmps60;go_wp2_with fail;refine (zFi _ _ _ _ ha0 ha (by omega) (.inl rfl)).mono ?_;rintro e w' ⟨rfl,rfl⟩;go_wp2;go_ret2;exact ⟨zAJ (by have e:(b%64).toNat=k:=(by have:=KK.out;omega);show _=a/2^(b%64).toNat;rw [e];exact ref_srl a k ha0 ha),rfl⟩)
theorem refDo_F (op a b:Int) (w:World) (ha0:0≤a) (ha:a<18446744073709551616) (hb0:0≤b) (hb:b<18446744073709551616) (h:op=30∨op=38) :
  Calls prog 60 #[.int .i64 op,.int .u64 a,.int .u64 b] w fun e w'=>e=.returned (.tuple #[.int .u64 (doV op a b),.bool true])∧w=w':=by
 obtain ⟨k,kk⟩:=zze (show 0≤b%64 by omega);obtain ⟨j,jj⟩:=zze (show 0≤b%32 by omega);have hk:k<64:=by omega
 have hj:j<32:=by omega
 have KK:=hid kk;have JJ:=hid jj;rcases h with rfl|rfl;all_goals (
  go_enter func60,ntmps60;go_wp2_with fail;refine (zEg _ _ _ ha0 (by omega) (by omega)).mono ?_;rintro e w' ⟨rfl,rfl⟩;go_wp2_with fail;refine (zFi _ _ _ _ ha0 ha (by omega) (zKe _)).mono ?_;rintro e w' ⟨rfl,rfl⟩;go_wp2;go_ret2;exact ⟨zAJ (by have e:(b%64).toNat=k:=(by have:=KK.out;omega);show _=IntKind.u64.wrap (wrap64 a/2^(b%64).toNat);rw [e];exact ref_sra a k ha0 ha),rfl⟩)
theorem refDo_G (op a b:Int) (w:World) (ha0:0≤a) (ha:a<18446744073709551616) (hb0:0≤b) (hb:b<18446744073709551616) (h:op=41∨op=45) :
  Calls prog 60 #[.int .i64 op,.int .u64 a,.int .u64 b] w fun e w'=>e=.returned (.tuple #[.int .u64 (doV op a b),.bool true])∧w=w':=by
 obtain ⟨k,kk⟩:=zze (show 0≤b%64 by omega);obtain ⟨j,jj⟩:=zze (show 0≤b%32 by omega);have hk:k<64:=by omega
 have hj:j<32:=by omega
 have KK:=hid kk;have JJ:=hid jj;rcases h with rfl|rfl;all_goals (
  go_enter func60,ntmps60;go_wp2_with fail;refine (zZ _ _ _ (by first|omega|(rw [IntKind.wrap_u64];omega)|exact Int.mul_nonneg (by omega) (by omega)|exact Int.ediv_nonneg (by omega) (Int.le_of_lt (za _)))).mono ?_;rintro e w' ⟨rfl,rfl⟩;go_wp2;go_ret2;exact ⟨zAJ (by show zV _ 32=zV (((a%4294967296)+(b%4294967296))%4294967296) 32;exact zCK _ _ (by first|omega|(rw [IntKind.wrap_u64];omega))),rfl⟩)
theorem refDo_H (op a b:Int) (w:World) (ha0:0≤a) (ha:a<18446744073709551616) (hb0:0≤b) (hb:b<18446744073709551616) (h:op=46) :
  Calls prog 60 #[.int .i64 op,.int .u64 a,.int .u64 b] w fun e w'=>e=.returned (.tuple #[.int .u64 (doV op a b),.bool true])∧w=w':=by
 obtain ⟨k,kk⟩:=zze (show 0≤b%64 by omega);obtain ⟨j,jj⟩:=zze (show 0≤b%32 by omega);have hk:k<64:=by omega
 have hj:j<32:=by omega
 have KK:=hid kk;have JJ:=hid jj;rcases h with rfl;all_goals (
  go_enter func60,ntmps60;go_wp2_with fail;refine (zZ _ _ _ (by first|omega|(rw [IntKind.wrap_u64];omega)|exact Int.mul_nonneg (by omega) (by omega)|exact Int.ediv_nonneg (by omega) (Int.le_of_lt (za _)))).mono ?_;rintro e w' ⟨rfl,rfl⟩;go_wp2;go_ret2;exact ⟨zAJ (by show zV _ 32=zV (((a%4294967296) - (b%4294967296))%4294967296) 32;exact zCK _ _ (by first|omega|(rw [IntKind.wrap_u64];omega))),rfl⟩)
theorem refDo_I (op a b:Int) (w:World) (ha0:0≤a) (ha:a<18446744073709551616) (hb0:0≤b) (hb:b<18446744073709551616) (h:op=58) :
  Calls prog 60 #[.int .i64 op,.int .u64 a,.int .u64 b] w fun e w'=>e=.returned (.tuple #[.int .u64 (doV op a b),.bool true])∧w=w':=by
 obtain ⟨k,kk⟩:=zze (show 0≤b%64 by omega);obtain ⟨j,jj⟩:=zze (show 0≤b%32 by omega);have hk:k<64:=by omega
 have hj:j<32:=by omega
 have KK:=hid kk;have JJ:=hid jj;rcases h with rfl;all_goals (
  go_enter func60,ntmps60;go_wp2_with fail;refine (zZ _ _ _ (by first|omega|(rw [IntKind.wrap_u64];omega)|exact Int.mul_nonneg (by omega) (by omega)|exact Int.ediv_nonneg (by omega) (Int.le_of_lt (za _)))).mono ?_;rintro e w' ⟨rfl,rfl⟩;go_wp2;go_ret2;exact ⟨zAJ (by show zV _ 32=zV ((a%4294967296)*(b%4294967296)%4294967296) 32;generalize (a%4294967296)*(b%4294967296)=X;exact zCK _ _ (by first|omega|(rw [IntKind.wrap_u64];omega))),rfl⟩)
theorem refDo_J (op a b:Int) (w:World) (ha0:0≤a) (ha:a<18446744073709551616) (hb0:0≤b) (hb:b<18446744073709551616) (h:op=42∨op=47) :
  Calls prog 60 #[.int .i64 op,.int .u64 a,.int .u64 b] w fun e w'=>e=.returned (.tuple #[.int .u64 (doV op a b),.bool true])∧w=w':=by
 obtain ⟨k,kk⟩:=zze (show 0≤b%64 by omega);obtain ⟨j,jj⟩:=zze (show 0≤b%32 by omega);have hk:k<64:=by omega
 have hj:j<32:=by omega
 have KK:=hid kk;have JJ:=hid jj;rcases h with rfl|rfl;all_goals (
  go_enter func60,ntmps60;go_wp2_with fail;refine (zZ _ _ _ (by first|omega|(rw [IntKind.wrap_u64];omega)|exact Int.mul_nonneg (by omega) (by omega)|exact Int.ediv_nonneg (by omega) (Int.le_of_lt (za _)))).mono ?_;rintro e w' ⟨rfl,rfl⟩;go_wp2;go_ret2;exact ⟨zAJ (by have e:(b%4294967296%32).toNat=j:=(by have:=JJ.out;omega);show zV _ 32=zV ((a%4294967296)*2^((b%4294967296)%32).toNat%4294967296) 32;rw [e];generalize (a%4294967296)*2^j=X;exact zCK _ _ (by first|omega|(rw [IntKind.wrap_u64];omega))),rfl⟩)
theorem refDo_K (op a b:Int) (w:World) (ha0:0≤a) (ha:a<18446744073709551616) (hb0:0≤b) (hb:b<18446744073709551616) (h:op=43∨op=48) :
  Calls prog 60 #[.int .i64 op,.int .u64 a,.int .u64 b] w fun e w'=>e=.returned (.tuple #[.int .u64 (doV op a b),.bool true])∧w=w':=by
 obtain ⟨k,kk⟩:=zze (show 0≤b%64 by omega);obtain ⟨j,jj⟩:=zze (show 0≤b%32 by omega);have hk:k<64:=by omega
 have hj:j<32:=by omega
 have KK:=hid kk;have JJ:=hid jj;rcases h with rfl|rfl;all_goals (
  go_enter func60,ntmps60;go_wp2_with fail;refine (zZ _ _ _ (by first|omega|(rw [IntKind.wrap_u64];omega)|exact Int.mul_nonneg (by omega) (by omega)|exact Int.ediv_nonneg (by omega) (Int.le_of_lt (za _)))).mono ?_;rintro e w' ⟨rfl,rfl⟩;go_wp2;go_ret2;exact ⟨zAJ (by have e:(b%4294967296%32).toNat=j:=(by have:=JJ.out;omega);show zV _ 32=zV ((a%4294967296)/2^((b%4294967296)%32).toNat) 32;rw [e]),rfl⟩)
theorem refDo_L (op a b:Int) (w:World) (ha0:0≤a) (ha:a<18446744073709551616) (hb0:0≤b) (hb:b<18446744073709551616) (h:op=44∨op=49) :
  Calls prog 60 #[.int .i64 op,.int .u64 a,.int .u64 b] w fun e w'=>e=.returned (.tuple #[.int .u64 (doV op a b),.bool true])∧w=w':=by
 obtain ⟨k,kk⟩:=zze (show 0≤b%64 by omega);obtain ⟨j,jj⟩:=zze (show 0≤b%32 by omega);have hk:k<64:=by omega
 have hj:j<32:=by omega
 have KK:=hid kk;have JJ:=hid jj;rcases h with rfl|rfl;all_goals (
  go_enter func60,ntmps60;go_wp2_with fail;refine (zZ _ _ _ (by omega)).mono ?_;rintro e w' ⟨rfl,rfl⟩;go_wp2_with fail;refine (zEg _ _ _ (by omega) (by omega) (by omega)).mono ?_;rintro e w' ⟨rfl,rfl⟩;go_wp2_with fail;refine (zFi _ _ _ _ (zAg _).1 (zAg _).2 (by omega) (zKe _)).mono ?_;rintro e w' ⟨rfl,rfl⟩;go_wp2;go_ret2;exact ⟨zAJ (by have e:(b%4294967296%32).toNat=j:=(by have:=JJ.out;omega);show _=zV (wrap32 (a%4294967296)/2^((b%4294967296)%32).toNat%4294967296) 32;rw [e];exact ref_sraw _ j (by omega) (by omega)),rfl⟩)
theorem div_bd (x y:Int):0≤divI x y∧divI x y<18446744073709551616:=by unfold divI;rw [IntKind.wrap_u64];split<;>omega
theorem rem_nn (x y:Int) (h:0≤x):0≤remI x y:=by unfold remI;rw [IntKind.wrap_u64];split<;>omega
theorem divu_nn (x y:Int) (h:0≤x) (k:0≤y):0≤zHb x y:=by
 unfold zHb;split
 ·decide
 ·exact Int.ediv_nonneg h k
theorem remu_nn (x y:Int) (h:0≤x) (k:0≤y):0≤zHK x y:=by
 unfold zHK;split
 ·exact h
 ·exact Int.emod_nonneg _ (by assumption)
theorem refProducts_50 (a b:Int) (w:World) (ha0:0≤a) (ha:a<18446744073709551616) (hb0:0≤b) (hb:b<18446744073709551616) :
  Calls prog 103 #[.int .i64 50,.int .u64 a,.int .u64 b] w fun e w'=>e=.returned (.tuple #[.int .u64 (doV 50 a b),.bool true])∧w=w':=by
 have hA0:0≤a%4294967296:=by omega
 have hB0:0≤b%4294967296:=by omega
 have hA:a%4294967296<18446744073709551616:=by omega
 have hB:b%4294967296<18446744073709551616:=by omega
 go_enter func103,ntmps103;go_wp2_with fail;refine (zDo _ _ _ ha0 ha hb0 hb).mono ?_;rintro e w' ⟨rfl,rfl⟩;go_wp2;go_ret2;exact ⟨zAJ (by show _=IntKind.u64.wrap (a*b);rw [IntKind.wrap_u64]),rfl⟩
theorem refProducts_51 (a b:Int) (w:World) (ha0:0≤a) (ha:a<18446744073709551616) (hb0:0≤b) (hb:b<18446744073709551616) :
  Calls prog 103 #[.int .i64 51,.int .u64 a,.int .u64 b] w fun e w'=>e=.returned (.tuple #[.int .u64 (doV 51 a b),.bool true])∧w=w':=by
 have hA0:0≤a%4294967296:=by omega
 have hB0:0≤b%4294967296:=by omega
 have hA:a%4294967296<18446744073709551616:=by omega
 have hB:b%4294967296<18446744073709551616:=by omega
 go_enter func103,ntmps103;go_wp2_with fail;refine (refMulh_any _ _ _ ha0 ha hb0 hb).mono ?_;rintro e w' ⟨rfl,rfl⟩;go_wp2;go_ret2;exact ⟨rfl,rfl⟩
theorem refProducts_52 (a b:Int) (w:World) (ha0:0≤a) (ha:a<18446744073709551616) (hb0:0≤b) (hb:b<18446744073709551616) :
  Calls prog 103 #[.int .i64 52,.int .u64 a,.int .u64 b] w fun e w'=>e=.returned (.tuple #[.int .u64 (doV 52 a b),.bool true])∧w=w':=by
 have hA0:0≤a%4294967296:=by omega
 have hB0:0≤b%4294967296:=by omega
 have hA:a%4294967296<18446744073709551616:=by omega
 have hB:b%4294967296<18446744073709551616:=by omega
 go_enter func103,ntmps103;go_wp2_with fail;refine (refMulhsu_any _ _ _ ha0 ha hb0 hb).mono ?_;rintro e w' ⟨rfl,rfl⟩;go_wp2;go_ret2;exact ⟨rfl,rfl⟩
theorem refProducts_53 (a b:Int) (w:World) (ha0:0≤a) (ha:a<18446744073709551616) (hb0:0≤b) (hb:b<18446744073709551616) :
  Calls prog 103 #[.int .i64 53,.int .u64 a,.int .u64 b] w fun e w'=>e=.returned (.tuple #[.int .u64 (doV 53 a b),.bool true])∧w=w':=by
 have hA0:0≤a%4294967296:=by omega
 have hB0:0≤b%4294967296:=by omega
 have hA:a%4294967296<18446744073709551616:=by omega
 have hB:b%4294967296<18446744073709551616:=by omega
 go_enter func103,ntmps103;go_wp2_with fail;refine (refMulhu_any _ _ _ ha0 ha hb0 hb).mono ?_;rintro e w' ⟨rfl,rfl⟩;go_wp2;go_ret2;exact ⟨rfl,rfl⟩
theorem refProducts_54 (a b:Int) (w:World) (ha0:0≤a) (ha:a<18446744073709551616) (hb0:0≤b) (hb:b<18446744073709551616) :
  Calls prog 103 #[.int .i64 54,.int .u64 a,.int .u64 b] w fun e w'=>e=.returned (.tuple #[.int .u64 (doV 54 a b),.bool true])∧w=w':=by
 have hA0:0≤a%4294967296:=by omega
 have hB0:0≤b%4294967296:=by omega
 have hA:a%4294967296<18446744073709551616:=by omega
 have hB:b%4294967296<18446744073709551616:=by omega
 go_enter func103,ntmps103;go_wp2_with fail;refine (zGm _ _ _ ha0 ha hb0 hb).mono ?_;rintro e w' ⟨rfl,rfl⟩;go_wp2;go_ret2;exact ⟨rfl,rfl⟩
theorem refProducts_55 (a b:Int) (w:World) (ha0:0≤a) (ha:a<18446744073709551616) (hb0:0≤b) (hb:b<18446744073709551616) :
  Calls prog 103 #[.int .i64 55,.int .u64 a,.int .u64 b] w fun e w'=>e=.returned (.tuple #[.int .u64 (doV 55 a b),.bool true])∧w=w':=by
 have hA0:0≤a%4294967296:=by omega
 have hB0:0≤b%4294967296:=by omega
 have hA:a%4294967296<18446744073709551616:=by omega
 have hB:b%4294967296<18446744073709551616:=by omega
 go_enter func103,ntmps103;go_wp2_with fail;refine (zFr _ _ _ ha0 ha hb0 hb).mono ?_;rintro e w' ⟨rfl,rfl⟩;go_wp2;go_ret2;exact ⟨rfl,rfl⟩
theorem refProducts_56 (a b:Int) (w:World) (ha0:0≤a) (ha:a<18446744073709551616) (hb0:0≤b) (hb:b<18446744073709551616) :
  Calls prog 103 #[.int .i64 56,.int .u64 a,.int .u64 b] w fun e w'=>e=.returned (.tuple #[.int .u64 (doV 56 a b),.bool true])∧w=w':=by
 have hA0:0≤a%4294967296:=by omega
 have hB0:0≤b%4294967296:=by omega
 have hA:a%4294967296<18446744073709551616:=by omega
 have hB:b%4294967296<18446744073709551616:=by omega
 go_enter func103,ntmps103;go_wp2_with fail;refine (zGl _ _ _ ha0 ha hb0 hb).mono ?_;rintro e w' ⟨rfl,rfl⟩;go_wp2;go_ret2;exact ⟨rfl,rfl⟩
theorem refProducts_57 (a b:Int) (w:World) (ha0:0≤a) (ha:a<18446744073709551616) (hb0:0≤b) (hb:b<18446744073709551616) :
  Calls prog 103 #[.int .i64 57,.int .u64 a,.int .u64 b] w fun e w'=>e=.returned (.tuple #[.int .u64 (doV 57 a b),.bool true])∧w=w':=by
 have hA0:0≤a%4294967296:=by omega
 have hB0:0≤b%4294967296:=by omega
 have hA:a%4294967296<18446744073709551616:=by omega
 have hB:b%4294967296<18446744073709551616:=by omega
 go_enter func103,ntmps103;go_wp2_with fail;refine (zFp _ _ _ ha0 ha hb0 hb).mono ?_;rintro e w' ⟨rfl,rfl⟩;go_wp2;go_ret2;exact ⟨rfl,rfl⟩
theorem refProducts_59 (a b:Int) (w:World) (ha0:0≤a) (ha:a<18446744073709551616) (hb0:0≤b) (hb:b<18446744073709551616) :
  Calls prog 103 #[.int .i64 59,.int .u64 a,.int .u64 b] w fun e w'=>e=.returned (.tuple #[.int .u64 (doV 59 a b),.bool true])∧w=w':=by
 have hA0:0≤a%4294967296:=by omega
 have hB0:0≤b%4294967296:=by omega
 have hA:a%4294967296<18446744073709551616:=by omega
 have hB:b%4294967296<18446744073709551616:=by omega
 go_enter func103,ntmps103;go_wp2_with fail;refine (zZ _ _ _ hA0).mono ?_;rintro e w' ⟨rfl,rfl⟩;go_wp2_with fail;refine (zZ _ _ _ hB0).mono ?_;rintro e w' ⟨rfl,rfl⟩;go_wp2_with fail;refine (zGm _ _ _ (zAg _).1 (zAg _).2 (zAg _).1 (zAg _).2).mono ?_;rintro e w' ⟨rfl,rfl⟩;go_wp2_with fail;refine (zZ _ _ _ (div_bd _ _).1).mono ?_;rintro e w' ⟨rfl,rfl⟩;go_wp2;go_ret2;exact ⟨zAJ (zCK _ _ (Int.emod_emod_of_dvd _ (Int.dvd_refl _)).symm),rfl⟩
theorem refProducts_60 (a b:Int) (w:World) (ha0:0≤a) (ha:a<18446744073709551616) (hb0:0≤b) (hb:b<18446744073709551616) :
  Calls prog 103 #[.int .i64 60,.int .u64 a,.int .u64 b] w fun e w'=>e=.returned (.tuple #[.int .u64 (doV 60 a b),.bool true])∧w=w':=by
 have hA0:0≤a%4294967296:=by omega
 have hB0:0≤b%4294967296:=by omega
 have hA:a%4294967296<18446744073709551616:=by omega
 have hB:b%4294967296<18446744073709551616:=by omega
 go_enter func103,ntmps103;go_wp2_with fail;refine (zFr _ _ _ hA0 hA hB0 hB).mono ?_;rintro e w' ⟨rfl,rfl⟩;go_wp2_with fail;refine (zZ _ _ _ (divu_nn _ _ hA0 hB0)).mono ?_;rintro e w' ⟨rfl,rfl⟩;go_wp2;go_ret2;exact ⟨zAJ (zCK _ _ (Int.emod_emod_of_dvd _ (Int.dvd_refl _)).symm),rfl⟩
theorem refProducts_61 (a b:Int) (w:World) (ha0:0≤a) (ha:a<18446744073709551616) (hb0:0≤b) (hb:b<18446744073709551616) :
  Calls prog 103 #[.int .i64 61,.int .u64 a,.int .u64 b] w fun e w'=>e=.returned (.tuple #[.int .u64 (doV 61 a b),.bool true])∧w=w':=by
 have hA0:0≤a%4294967296:=by omega
 have hB0:0≤b%4294967296:=by omega
 have hA:a%4294967296<18446744073709551616:=by omega
 have hB:b%4294967296<18446744073709551616:=by omega
 go_enter func103,ntmps103;go_wp2_with fail;refine (zZ _ _ _ hA0).mono ?_;rintro e w' ⟨rfl,rfl⟩;go_wp2_with fail;refine (zZ _ _ _ hB0).mono ?_;rintro e w' ⟨rfl,rfl⟩;go_wp2_with fail;refine (zGl _ _ _ (zAg _).1 (zAg _).2 (zAg _).1 (zAg _).2).mono ?_;rintro e w' ⟨rfl,rfl⟩;go_wp2_with fail;refine (zZ _ _ _ (rem_nn _ _ (zAg _).1)).mono ?_;rintro e w' ⟨rfl,rfl⟩;go_wp2;go_ret2;exact ⟨zAJ (zCK _ _ (Int.emod_emod_of_dvd _ (Int.dvd_refl _)).symm),rfl⟩
theorem refProducts_62 (a b:Int) (w:World) (ha0:0≤a) (ha:a<18446744073709551616) (hb0:0≤b) (hb:b<18446744073709551616) :
  Calls prog 103 #[.int .i64 62,.int .u64 a,.int .u64 b] w fun e w'=>e=.returned (.tuple #[.int .u64 (doV 62 a b),.bool true])∧w=w':=by
 have hA0:0≤a%4294967296:=by omega
 have hB0:0≤b%4294967296:=by omega
 have hA:a%4294967296<18446744073709551616:=by omega
 have hB:b%4294967296<18446744073709551616:=by omega
 go_enter func103,ntmps103;go_wp2_with fail;refine (zFp _ _ _ hA0 hA hB0 hB).mono ?_;rintro e w' ⟨rfl,rfl⟩;go_wp2_with fail;refine (zZ _ _ _ (remu_nn _ _ hA0 hB0)).mono ?_;rintro e w' ⟨rfl,rfl⟩;go_wp2;go_ret2;exact ⟨zAJ (zCK _ _ (Int.emod_emod_of_dvd _ (Int.dvd_refl _)).symm),rfl⟩
theorem refDo_P (op a b:Int) (w:World) (ha0:0≤a) (ha:a<18446744073709551616) (hb0:0≤b) (hb:b<18446744073709551616) (h:op=50∨op=51∨op=52∨op=53∨op=54∨op=55∨op=56∨op=57∨op=59∨op=60∨op=61∨op=62) :
  Calls prog 60 #[.int .i64 op,.int .u64 a,.int .u64 b] w fun e w'=>e=.returned (.tuple #[.int .u64 (doV op a b),.bool true])∧w=w':=by
 rcases h with rfl|rfl|rfl|rfl|rfl|rfl|rfl|rfl|rfl|rfl|rfl|rfl;all_goals (
  go_enter func60,ntmps60;go_wp2_with fail
  (first|with_reducible refine (refProducts_50 _ _ _ ha0 ha hb0 hb).mono ?_|with_reducible refine (refProducts_51 _ _ _ ha0 ha hb0 hb).mono ?_|with_reducible refine (refProducts_52 _ _ _ ha0 ha hb0 hb).mono ?_|with_reducible refine (refProducts_53 _ _ _ ha0 ha hb0 hb).mono ?_|with_reducible refine (refProducts_54 _ _ _ ha0 ha hb0 hb).mono ?_|with_reducible refine (refProducts_55 _ _ _ ha0 ha hb0 hb).mono ?_|with_reducible refine (refProducts_56 _ _ _ ha0 ha hb0 hb).mono ?_|with_reducible refine (refProducts_57 _ _ _ ha0 ha hb0 hb).mono ?_|with_reducible refine (refProducts_59 _ _ _ ha0 ha hb0 hb).mono ?_|with_reducible refine (refProducts_60 _ _ _ ha0 ha hb0 hb).mono ?_|with_reducible refine (refProducts_61 _ _ _ ha0 ha hb0 hb).mono ?_|with_reducible refine (refProducts_62 _ _ _ ha0 ha hb0 hb).mono ?_)
  rintro e w' ⟨rfl,rfl⟩;go_wp2;go_ret2;exact ⟨rfl,rfl⟩)
theorem refDo_yes (op a b:Int) (w:World) (hop:op∈zEI) (ha0:0≤a) (ha:a<18446744073709551616) (hb0:0≤b) (hb:b<18446744073709551616) :
  Calls prog 60 #[.int .i64 op,.int .u64 a,.int .u64 b] w fun e w'=>e=.returned (.tuple #[.int .u64 (doV op a b),.bool true])∧w=w':=by
 simp only [zEI,zCd,zBo,zBn,zBA,zAb,zGV,zHR,List.cons_append,List.nil_append,List.mem_cons,zzm,or_false] at hop;rcases hop with rfl|rfl|rfl|rfl|rfl|rfl|rfl|rfl|rfl|rfl|rfl|rfl|rfl|rfl|rfl|rfl|rfl|rfl|rfl|rfl|rfl|rfl|rfl|rfl|rfl|rfl|rfl|rfl|rfl|rfl|rfl|rfl|rfl|rfl|rfl|rfl|rfl|rfl|rfl|rfl|rfl|rfl;all_goals (first|exact refDo_A _ a b w ha0 ha hb0 hb (by decide)|exact refDo_B _ a b w ha0 ha hb0 hb (by decide)|exact refDo_C _ a b w ha0 ha hb0 hb (by decide)|exact refDo_D _ a b w ha0 ha hb0 hb (by decide)|exact refDo_E _ a b w ha0 ha hb0 hb (by decide)|exact refDo_F _ a b w ha0 ha hb0 hb (by decide)|exact refDo_G _ a b w ha0 ha hb0 hb (by decide)|exact refDo_H _ a b w ha0 ha hb0 hb (by decide)|exact refDo_I _ a b w ha0 ha hb0 hb (by decide)|exact refDo_J _ a b w ha0 ha hb0 hb (by decide)|exact refDo_K _ a b w ha0 ha hb0 hb (by decide)|exact refDo_L _ a b w ha0 ha hb0 hb (by decide)|exact refDo_P _ a b w ha0 ha hb0 hb (by decide))
theorem refDo_no (op a b:Int) (w:World) (hop:op ∉ zEI) (ha0:0≤a) (ha:a<18446744073709551616) (hb0:0≤b) (hb:b<18446744073709551616) :
  Calls prog 60 #[.int .i64 op,.int .u64 a,.int .u64 b] w fun e w'=>e=.returned (.tuple #[.int .u64 0,.bool false])∧w=w':=by
 simp only [zEI,zCd,zBo,zBn,zBA,zAb,zGV,zHR,List.cons_append,List.nil_append,List.mem_cons,zzm,or_false,not_or] at hop;obtain ⟨h0,h1,h2,h3,h4,h5,h6,h7,h8,h9,h10,h11,h12,h13,h14,h15,h16,h17,h18,h19,h20,h21,h22,h23,h24,h25,h26,h27,h28,h29,h30,h31,h32,h33,h34,h35,h36,h37,h38,h39,h40,h41⟩:=hop;replace h0:=nin h0;replace h1:=nin h1;replace h2:=nin h2;replace h3:=nin h3;replace h4:=nin h4;replace h5:=nin h5;replace h6:=nin h6;replace h7:=nin h7;replace h8:=nin h8;replace h9:=nin h9;replace h10:=nin h10;replace h11:=nin h11;replace h12:=nin h12;replace h13:=nin h13;replace h14:=nin h14;replace h15:=nin h15;replace h16:=nin h16;replace h17:=nin h17;replace h18:=nin h18;replace h19:=nin h19;replace h20:=nin h20;replace h21:=nin h21;replace h22:=nin h22;replace h23:=nin h23;replace h24:=nin h24;replace h25:=nin h25;replace h26:=nin h26;replace h27:=nin h27;replace h28:=nin h28;replace h29:=nin h29;replace h30:=nin h30;replace h31:=nin h31;replace h32:=nin h32;replace h33:=nin h33;replace h34:=nin h34;replace h35:=nin h35;replace h36:=nin h36;replace h37:=nin h37;replace h38:=nin h38;replace h39:=nin h39;replace h40:=nin h40;replace h41:=nin h41;have c:∀ w,Calls prog 103 #[.int .i64 op,.int .u64 a,.int .u64 b] w fun e w'=>e=.returned (.tuple #[.int .u64 0,.bool false])∧w=w':=by
  intro w;go_enter func103,ntmps103;go_wp2;go_ret2;exact ⟨rfl,rfl⟩
 go_enter func60,ntmps60;go_wp2_with fail;refine (c _).mono ?_;rintro e w' ⟨rfl,rfl⟩;clear c;go_wp2;go_ret2;exact ⟨rfl,rfl⟩
def rsz (op:Int):Nat:=if 11≤op∧op≤17 then lwid op else if 18≤op∧op≤21 then swid op else 0
theorem rsize_any (op:Int) (w:World):Calls prog 54 #[.int .i64 op] w fun e w'=>e=.returned (.int .i64 (rsz op:Int))∧w=w':=by
 by_cases h:11≤op∧op≤21
 ·obtain ⟨k,rfl,hk⟩:∃ k:Nat,op=k∧k∈[11,12,13,14,15,16,17,18,19,20,21]:=⟨op.toNat,by omega,by simp only [List.mem_cons,zzm,or_false];omega⟩;simp only [List.mem_cons,zzm,or_false] at hk;rcases hk with rfl|rfl|rfl|rfl|rfl|rfl|rfl|rfl|rfl|rfl|rfl;all_goals (
   go_enter func54,ntmps54;go_wp2;go_ret;exact ⟨rfl,rfl⟩)
 ·have hr:rsz op=0:=by unfold rsz;rw [if_neg (by omega),if_neg (by omega)]
  rw [hr];have n0:=nin (show op≠11 by omega);have n1:=nin (show op≠12 by omega);have n2:=nin (show op≠13 by omega);have n3:=nin (show op≠14 by omega);have n4:=nin (show op≠15 by omega);have n5:=nin (show op≠16 by omega);have n6:=nin (show op≠17 by omega);have n7:=nin (show op≠18 by omega);have n8:=nin (show op≠19 by omega);have n9:=nin (show op≠20 by omega);have na:=nin (show op≠21 by omega);clear h hr;go_enter func54,ntmps54;go_wp2;go_ret;exact ⟨rfl,rfl⟩
variable {S U:Nat→Prop} {w:World}
theorem Fr.after' {V:Nat→Prop} {a b:World} (h:Fr U w a) (f:Fr V a b) (hV:∀ q,q<w.heap.size→V q→U q):Fr U w b:=
 ⟨f.os.trans h.os,f.tape.trans h.tape,f.output.trans h.output,Nat.le_trans h.size f.size,fun q hq hn=>(f.block q (Nat.lt_of_lt_of_le hq h.size) (fun e=>hn (hV q hq e))).trans (h.block q hq hn)⟩
section
variable {S:Nat→Prop} {mo b0 b1:Int} {w V V':World} {hb rb:Nat} {P:List Pg} {M M':Nat→Int} {pc ha hn:Int} {xs:List Int} {i:Td.Ins}
structure RV (S:Nat→Prop) (w:World) (hb rb:Nat) (P:List Pg) (M:Nat→Int) (mo b0 b1 pc:Int) (xs:List Int) (ha hn:Int) (i:Td.Ins) (V:World):Prop where
 hat:HAt V hb rb pc xs ha hn
 box:V.heap[w.heap.size]?=some (.cells (Td.I7 i.op i.rd i.r1 i.r2 i.im i.od i.sz) 38 (0,0))
 res:V.heap[w.heap.size+1]?=some (.cells #[.int .i64 0,.int .i64 0,.int .u64 0] 33 (0,0))
 rp:RP (fun b=>S b∧b<w.heap.size) V rb P M mo b0 b1
 fr:Fr (fun b=>S b∨b=hb) w V
 lt:hb<w.heap.size
 nS:¬ S hb
theorem rv_of (h:RP S w rb P M mo b0 b1) (hh:HAt w hb rb pc xs ha hn) (hS:¬ S hb):RV S w hb rb P M mo b0 b1 pc xs ha hn i ((w.alloc (.cells i.cells 38)).alloc (.cells #[.int .i64 0,.int .i64 0,.int .u64 0] 33)):=by
 have k0:Bl w ((w.alloc (.cells i.cells 38)).alloc (.cells #[.int .i64 0,.int .i64 0,.int .u64 0] 33)):=(Bl.new _ _).alloc _;obtain ⟨g0,g1⟩:=zBf w (.cells i.cells 38) (.cells #[.int .i64 0,.int .i64 0,.int .u64 0] 33);exact ⟨hh.bl' k0,g0,g1,(h.among (U:=fun b=>S b∧b<w.heap.size) fun b hb hS=>⟨hS,hb⟩).bl k0,Fr.zP k0,hh.lt,hS⟩
theorem RV.bl (h:RV S w hb rb P M mo b0 b1 pc xs ha hn i V) (k:Bl V V'):RV S w hb rb P M mo b0 b1 pc xs ha hn i V':=⟨h.hat.bl' k,k.at_ h.box,k.at_ h.res,h.rp.bl k,h.fr.trans (Fr.zP k),h.lt,h.nS⟩
variable {a fa fk ha' hn' pc':Int} {xs':List Int}
theorem RV.turn (h:RV S w hb rb P M mo b0 b1 pc xs ha hn i V) (k:Fr (only hb) V V') (hh:HAt V' hb rb pc' xs' ha' hn'):RV S w hb rb P M mo b0 b1 pc' xs' ha' hn' i V':=by
 have hl:=h.lt;exact ⟨hh,k.at_ h.box (fun e=>by have e3:w.heap.size=hb:=e;omega),k.at_ h.res (fun e=>by have e3:w.heap.size+1=hb:=e;omega),h.rp.kept k (fun b _ e e2=>h.nS (by rw [← (show b=hb from e2)];exact e.1)),h.fr.trans (k.mono fun b _ e=>.inr e),hl,h.nS⟩
theorem RV.setX (h:RV S w hb rb P M mo b0 b1 pc xs ha hn i V) (r:Nat) (hr:r<32) (y:Int):RV S w hb rb P M mo b0 b1 pc (xs.set r y) ha hn i (V.setCell ⟨hb,1+r,none⟩ (.int .u64 y)):=
 h.turn (Fr.set (S:=only hb) (p:=⟨hb,1+r,none⟩) rfl _) (h.hat.zFg r hr y)
theorem RV.zCl (h:RV S w hb rb P M mo b0 b1 pc xs ha hn i V) (p:Int):RV S w hb rb P M mo b0 b1 p xs ha hn i (V.setCell ⟨hb,0,none⟩ (.int .u64 p)):=
 h.turn (Fr.set (S:=only hb) (p:=⟨hb,0,none⟩) rfl _) (h.hat.zCl p)
theorem RV.zJV (h:RV S w hb rb P M mo b0 b1 pc xs ha hn i V) (hr:RP (fun b=>S b∧b<w.heap.size) V' rb P M' mo b0 b1) (k:Fr (fun b=>S b∧b<w.heap.size) V V'):RV S w hb rb P M' mo b0 b1 pc xs ha hn i V':=
 ⟨h.hat.fr' k (fun e=>h.nS e.1),k.at_ h.box (fun e=>by have:=e.2;omega),k.at_ h.res (fun e=>by have:=e.2;omega),hr,h.fr.trans (k.mono fun b _ e=>.inl e.1),h.lt,h.nS⟩
theorem RV.aturn (h:RV S w hb rb P M mo b0 b1 pc xs ha hn i V) (k:Fr (fun b=>(S b∧b<w.heap.size)∨b=hb) V V') (hh:HAt V' hb rb pc xs ha' hn') (hr:RP (fun b=>S b∧b<w.heap.size) V' rb P M' mo b0 b1):RV S w hb rb P M' mo b0 b1 pc xs ha' hn' i V':=by
 have hl:=h.lt;exact ⟨hh,k.at_ h.box (fun e=>by rcases e with e|e<;>omega),k.at_ h.res (fun e=>by rcases e with e|e<;>omega),hr,h.fr.trans (k.mono fun b _ e=>e.imp (fun e=>e.1) id),hl,h.nS⟩
theorem RV.fin (h:RV S w hb rb P M mo b0 b1 pc xs ha hn i V) (k fk fa:Int) :
  (((V.setCell ⟨w.heap.size+1,0,none⟩ (.int .i64 k)).setCell ⟨w.heap.size+1,1,none⟩ (.int .i64 fk)).setCell ⟨w.heap.size+1,2,none⟩ (.int .u64 fa)).heap[w.heap.size+1]?=some (.cells #[.int .i64 k,.int .i64 fk,.int .u64 fa] 33 (0,0)) ∧
  HAt (((V.setCell ⟨w.heap.size+1,0,none⟩ (.int .i64 k)).setCell ⟨w.heap.size+1,1,none⟩ (.int .i64 fk)).setCell ⟨w.heap.size+1,2,none⟩ (.int .u64 fa)) hb rb pc xs ha hn ∧
  RP S (((V.setCell ⟨w.heap.size+1,0,none⟩ (.int .i64 k)).setCell ⟨w.heap.size+1,1,none⟩ (.int .i64 fk)).setCell ⟨w.heap.size+1,2,none⟩ (.int .u64 fa)) rb P M mo b0 b1 ∧
  Fr (fun b=>S b∨b=hb) w (((V.setCell ⟨w.heap.size+1,0,none⟩ (.int .i64 k)).setCell ⟨w.heap.size+1,1,none⟩ (.int .i64 fk)).setCell ⟨w.heap.size+1,2,none⟩ (.int .u64 fa)):=by
 have f:Fr (only (w.heap.size+1)) V (((V.setCell ⟨w.heap.size+1,0,none⟩ (.int .i64 k)).setCell ⟨w.heap.size+1,1,none⟩ (.int .i64 fk)).setCell ⟨w.heap.size+1,2,none⟩ (.int .u64 fa)):=((Fr.set (S:=only (w.heap.size+1)) (p:=⟨w.heap.size+1,0,none⟩) rfl _).trans (Fr.set (S:=only (w.heap.size+1)) (p:=⟨w.heap.size+1,1,none⟩) rfl _)).trans (Fr.set (S:=only (w.heap.size+1)) (p:=⟨w.heap.size+1,2,none⟩) rfl _);have hl:=h.lt;refine ⟨set3 _ _ _ h.res,h.hat.fr' f (fun e=>by have:hb=w.heap.size+1:=e;omega),?_,h.fr.after' f (fun q hq e=>by have:q=w.heap.size+1:=e;omega)⟩;exact (h.rp.kept f (fun b _ e e2=>by have:b=w.heap.size+1:=e2;omega)).among fun b _ e=>e.1
def zIh (S:Nat→Prop) (w:World) (hb rb:Nat) (P:List Pg) (M:Nat→Int) (mo b0 b1:Int) (s:St) (i:Td.Ins) (e:Ending) (w':World):Prop:=
 ∃ k fk fa s' M' ys a h,e=.returned (zAD k fk fa)∧DoIs (regs P) M s i k fk fa s' M'∧HAt w' hb rb s'.pc ys a h∧ys.length=32∧ys.set 0 0=s'.xs∧(k=0→a=s'.ha∧h=s'.hn)∧RP S w' rb P M' mo b0 b1∧Fr (fun b=>S b∨b=hb) w w'
theorem zAP {s s':St} {k hh:Int} {ys:List Int} (h:RV S w hb rb P M' mo b0 b1 pc' ys a hh i V) (hd:DoIs (regs P) M s i k fk fa s' M') (hl:ys.length=32) (hpc:pc'=s'.pc) (hys:ys.set 0 0=s'.xs) (hk:k=0→a=s'.ha∧hh=s'.hn):
  zIh S w hb rb P M mo b0 b1 s i (.returned (zAD k fk fa)) (((V.setCell ⟨w.heap.size+1,0,none⟩ (.int .i64 k)).setCell ⟨w.heap.size+1,1,none⟩ (.int .i64 fk)).setCell ⟨w.heap.size+1,2,none⟩ (.int .u64 fa)):=by
 obtain ⟨_,g2,g3,g4⟩:=h.fin k fk fa;subst hpc;exact ⟨k,fk,fa,s',M',ys,a,hh,rfl,hd,g2,hl,hys,hk,g3,g4⟩
theorem HAt.rbc {w:World} {hb rb:Nat} {pc at_ held:Int} {xs:List Int} (h:HAt w hb rb pc xs at_ held):w.cell? ⟨hb,35,none⟩=some (zB rb):=by
 rw [h.cell];unfold zHW;rw [List.getElem?_append_right (by simp [h.len])];simp [h.len]
variable {b:Nat} {t:TypeId} {a0 a1:Value}
theorem zIj {w:World} (h:w.heap[b]?=some (.cells #[a0,a1] t (0,0))):w.cell? ⟨b,0,none⟩=some a0∧w.cell? ⟨b,1,none⟩=some a1:=by
 constructor<;>simp [World.cell?,h]
theorem zET (op a b:Int) (w:World) (ha:0≤a∧a<18446744073709551616) (hb:0≤b∧b<18446744073709551616) :
  Calls prog 60 #[.int .i64 op,.int .u64 a,.int .u64 b] w fun e w'=>e=.returned (.tuple #[.int .u64 (doA op a b),.bool (decide (op∈zEI))])∧w=w':=by
 unfold doA;by_cases h:op∈zEI
 ·rw [if_pos h,decide_eq_true h];exact refDo_yes op a b w h ha.1 ha.2 hb.1 hb.2
 ·rw [if_neg h,zzf h];exact refDo_no op a b w h ha.1 ha.2 hb.1 hb.2
theorem set00 {xs:List Int} (h:Regs xs):xs.set 0 0=xs:=by
 have:=zHq h 0
 unfold setX at this
 simpa using this
theorem rdo_any {s:St} (h:RP S w rb P M mo b0 b1) (hh:HAt w hb rb s.pc s.xs s.ha s.hn) (hS:¬ S hb) (hR:Regs s.xs) (hp:0≤s.pc∧s.pc<18446744073709551616) (i:Td.Ins) (hd:0≤i.rd∧i.rd<32) (hr:0≤i.r1∧i.r1<32) (hr2:0≤i.r2∧i.r2<32) :
  Calls prog 32 #[zB hb,.agg i.cells] w (zIh S w hb rb P M mo b0 b1 s i):=by
 have RV0:=hid (rv_of (i:=i) h hh hS);clear h hh hS;obtain ⟨pc,xs,ha,hn⟩:=s;obtain ⟨op,rd,r1,r2,im,od,sz⟩:=i;simp only at hd hr hr2 hR hp RV0;have HR:=hid hR;clear hR;have HP:=hid hp;clear hp;obtain ⟨r,rfl⟩:=zze hr.1;obtain ⟨t,rfl⟩:=zze hr2.1;obtain ⟨q,rfl⟩:=zze hd.1;have hr0:=hr.1;have hr1:=hr.2;have ht0:=hr2.1;have ht1:=hr2.2;have hq0:=hd.1;have hq1:=hd.2;have RB:=hid (show r<32∧t<32∧q<32 by omega);clear hr hr2 hd;unfold zB;go_enter func32,ntmps32;go_upto_region 1 with (fail);generalize (w.alloc (.cells (Td.I7 op q r t im od sz) 38)).alloc (.cells #[.int .i64 0,.int .i64 0,.int .u64 0] 33)=W at *;obtain ⟨d0,d1,d2,d3,d4,d5,d6⟩:=zI RV0.out.box;have c1:=RV0.out.hat.x r RB.out.1;have c2:=RV0.out.hat.x t RB.out.2.1;have c0:=RV0.out.hat.pcs;go_quiet (fail)
 (try simp only [Exit.inBlock,Exit.then])
 go_upto_region 2 with (fail);go_quiet (fail)
 (try simp only [Exit.inBlock,Exit.then])
 go_upto_region 4 with (fail);go_quiet (fail)
 (try simp only [Exit.inBlock,Exit.then])
 have cz:=fun W'=>rsize_any op W'
 go_wp2_with fail;with_reducible refine (cz _).mono ?_
 rintro e w1 ⟨rfl,rfl⟩;have RV1:∀ n,RV S w hb rb P M mo b0 b1 pc xs ha hn ⟨op,q,r,t,im,od,sz⟩ (W.drewN n):=fun n=>RV0.out.bl ((Bl.refl W).drewN n)
 clear d0 d1 d2 d3 d4 d5 d6 c0 c1 c2;generalize hV:W.drewN _=V;have RV2:=hid (hV▸RV1 _:RV S w hb rb P M mo b0 b1 pc xs ha hn ⟨op,q,r,t,im,od,sz⟩ V);clear hV RV1 RV0;obtain ⟨d0,d1,d2,d3,d4,d5,d6⟩:=zI RV2.out.box;clear cz d2 d3 d4 d5 d6;generalize hnx:IntKind.u64.wrap (pc+IntKind.u64.wrap sz)=nx;have NX:=hid hnx;clear hnx;generalize him:IntKind.u64.wrap im=iw;have IW:=hid him;clear him;have hlen:=RV2.out.hat.len;have H0:=hid (set00 HR.out);obtain ⟨e0,e1,e2⟩:=zD RV2.out.res;have z1:=free_at RV2.out.res;have c0:=RV2.out.hat.pcs;have zh:∀ j,V.frozen? ⟨hb,j,none⟩=false:=fun j=>by simp [World.frozen?,RV2.out.hat.blk]
 by_cases h87:op=87
 ·subst h87;go_wp2_with fail;refine zzb (results_cell_row rfl _ _ (w.heap.size+1) 33 _ (0,0) _ rfl (RV2.out.fin 1 0 0).1 underlying33 rfl (by kernel_rfl)) rfl ?_;exact zAP (s':=⟨pc,xs,0,0⟩) RV2.out (DoIs.ecall rfl) hlen rfl H0.out (fun e=>by cases e)
 have n87:=nin h87;by_cases h88:op=88
 ·subst h88;go_wp2_with fail;refine zzb (results_cell_row rfl _ _ (w.heap.size+1) 33 _ (0,0) _ rfl (RV2.out.fin 2 0 0).1 underlying33 rfl (by kernel_rfl)) rfl ?_;exact zAP (s':=⟨pc,xs,0,0⟩) RV2.out (DoIs.ebreak rfl) hlen rfl H0.out (fun e=>by cases e)
 have n88:=nin h88;by_cases hfe:op=85∨op=86
 ·have RV3:=hid (RV2.out.zCl nx);have HF:Hid (∀ k,op=k→(k=85∨k=86)):=hid (fun k e=>e▸hfe);rcases hfe with rfl|rfl;all_goals (
   go_upto_region 44 with (fail);clear c0 zh e0 e1 e2 z1;generalize V.setCell ⟨hb,0,none⟩ (.int .u64 nx)=V3 at *;obtain ⟨e0,e1,e2⟩:=zD RV3.out.res;have z1:=free_at RV3.out.res;go_wp2_with fail;refine zzb (results_cell_row rfl _ _ (w.heap.size+1) 33 _ (0,0) _ rfl (RV3.out.fin 0 0 0).1 underlying33 rfl (by kernel_rfl)) rfl ?_;exact zAP (s':=⟨nx,xs,ha,hn⟩) RV3.out (by rw [← NX.out];exact DoIs.fence (HF.out _ rfl)) hlen rfl H0.out (fun _=>⟨rfl,rfl⟩))
 have n85:=nin (fun e=>hfe (.inl e));have n86:=nin (fun e=>hfe (.inr e))
 --CASES
 by_cases h2:op=2
 ·subst h2;have cX:=RV2.out.hat.x q RB.out.2.2;have zX:V.frozen? ⟨hb,1+q,none⟩=false:=by simp [World.frozen?,RV2.out.hat.blk]
  go_upto_region 16 with (fail);go_region
  all_goals (
   (try simp only [Exit.inBlock,Exit.then])
   have RV3:=hid ((RV2.out.setX q RB.out.2.2 (IntKind.u64.wrap (pc+iw))).bl ((Bl.refl _).drew));clear cX zX c0 zh e0 e1 e2 z1 d0 d1;generalize (V.setCell ⟨hb,1+q,none⟩ (.int .u64 (IntKind.u64.wrap (pc+iw)))).drew=V3 at *;have c0:=RV3.out.hat.pcs;have z0:V3.frozen? ⟨hb,0,none⟩=false:=by simp [World.frozen?,RV3.out.hat.blk]
   go_upto_region 44 with (fail);have RV4:=hid (RV3.out.zCl (nx));clear c0 z0;generalize V3.setCell ⟨hb,0,none⟩ (.int .u64 (nx))=V4 at *;obtain ⟨e0,e1,e2⟩:=zD RV4.out.res;have z1:=free_at RV4.out.res;go_wp2_with fail;refine zzb (results_cell_row rfl _ _ (w.heap.size+1) 33 _ (0,0) _ rfl (RV4.out.fin 0 0 0).1 underlying33 rfl (by kernel_rfl)) rfl ?_;exact zAP (s':=⟨nx,setX xs q (IntKind.u64.wrap (pc+iw)),ha,hn⟩) RV4.out (by rw [← NX.out,← IW.out];exact DoIs.auipc rfl) (by simp [hlen]) rfl rfl (fun _=>⟨rfl,rfl⟩))
 have n2:=nin h2;by_cases h3:op=3
 ·subst h3;have cX:=RV2.out.hat.x q RB.out.2.2;have zX:V.frozen? ⟨hb,1+q,none⟩=false:=by simp [World.frozen?,RV2.out.hat.blk]
  go_upto_region 18 with (fail);go_region
  all_goals (
   (try simp only [Exit.inBlock,Exit.then])
   have RV3:=hid ((RV2.out.setX q RB.out.2.2 (nx)).bl ((Bl.refl _).drew));clear cX zX c0 zh e0 e1 e2 z1 d0 d1;generalize (V.setCell ⟨hb,1+q,none⟩ (.int .u64 (nx))).drew=V3 at *;have c0:=RV3.out.hat.pcs;have z0:V3.frozen? ⟨hb,0,none⟩=false:=by simp [World.frozen?,RV3.out.hat.blk]
   go_upto_region 44 with (fail);have RV4:=hid (RV3.out.zCl (IntKind.u64.wrap (pc+iw)));clear c0 z0;generalize V3.setCell ⟨hb,0,none⟩ (.int .u64 (IntKind.u64.wrap (pc+iw)))=V4 at *;obtain ⟨e0,e1,e2⟩:=zD RV4.out.res;have z1:=free_at RV4.out.res;go_wp2_with fail;refine zzb (results_cell_row rfl _ _ (w.heap.size+1) 33 _ (0,0) _ rfl (RV4.out.fin 0 0 0).1 underlying33 rfl (by kernel_rfl)) rfl ?_;exact zAP (s':=⟨IntKind.u64.wrap (pc+iw),setX xs q (nx),ha,hn⟩) RV4.out (by rw [← NX.out,← IW.out];exact DoIs.jal rfl) (by simp [hlen]) rfl rfl (fun _=>⟨rfl,rfl⟩))
 have n3:=nin h3;by_cases h4:op=4
 ·subst h4;have hab:=zAK (rx xs r+iw);have cX:=RV2.out.hat.x q RB.out.2.2;have zX:V.frozen? ⟨hb,1+q,none⟩=false:=by simp [World.frozen?,RV2.out.hat.blk]
  go_upto_region 21 with (fail);go_region
  all_goals (
   (try simp only [Exit.inBlock,Exit.then])
   have RV3:=hid ((RV2.out.setX q RB.out.2.2 (nx)).bl ((Bl.refl _).drew));clear cX zX c0 zh e0 e1 e2 z1 d0 d1;generalize (V.setCell ⟨hb,1+q,none⟩ (.int .u64 (nx))).drew=V3 at *;have c0:=RV3.out.hat.pcs;have z0:V3.frozen? ⟨hb,0,none⟩=false:=by simp [World.frozen?,RV3.out.hat.blk]
   go_upto_region 44 with (fail);have RV4:=hid (RV3.out.zCl (IntKind.u64.wrap (rx xs r+iw)/2*2));clear c0 z0;generalize V3.setCell ⟨hb,0,none⟩ (.int .u64 (IntKind.u64.wrap (rx xs r+iw)/2*2))=V4 at *;obtain ⟨e0,e1,e2⟩:=zD RV4.out.res;have z1:=free_at RV4.out.res;go_wp2_with fail;refine zzb (results_cell_row rfl _ _ (w.heap.size+1) 33 _ (0,0) _ rfl (RV4.out.fin 0 0 0).1 underlying33 rfl (by kernel_rfl)) rfl ?_;exact zAP (s':=⟨IntKind.u64.wrap (rx xs r+iw)/2*2,setX xs q (nx),ha,hn⟩) RV4.out (by rw [← NX.out,← IW.out];exact DoIs.jalr rfl) (by simp [hlen]) rfl rfl (fun _=>⟨rfl,rfl⟩))
 have n4:=nin h4;by_cases hbr:5≤op∧op≤10
 ·have HBR:=hid hbr;obtain ⟨l5,l10⟩:=hbr;have bm:op∈zCi:=by simp only [zCi,List.mem_cons,zzm,or_false];omega
  have ct:=refTaken_yes op (rx xs r) (rx xs t) V bm (HR.out.rx r).1 (HR.out.rx r).2 (HR.out.rx t).1 (HR.out.rx t).2;have bD:=DoIs.branch (L:=regs P) (M:=M) (s:=⟨pc,xs,ha,hn⟩) (i:=⟨op,q,r,t,im,od,sz⟩) HBR.out;unfold brPc St.nxt at bD;simp only [NX.out,IW.out] at bD;have BD:=hid bD;clear bD bm;go_wp2_with fail;with_reducible refine ct.mono ?_
  rintro e w2 ⟨rfl,rfl⟩;clear ct;generalize zHl op (rx xs r) (rx xs t)=tk at *;cases tk with
  | false =>
   clear l5 l10;go_upto_region 44 with (fail);have RV4:=hid (RV2.out.zCl (nx));clear c0 zh e0 e1 e2 z1 d0 d1;generalize V.setCell ⟨hb,0,none⟩ (.int .u64 (nx))=V4 at *;obtain ⟨e0,e1,e2⟩:=zD RV4.out.res;have z1:=free_at RV4.out.res;go_wp2_with fail;refine zzb (results_cell_row rfl _ _ (w.heap.size+1) 33 _ (0,0) _ rfl (RV4.out.fin 0 0 0).1 underlying33 rfl (by kernel_rfl)) rfl ?_;exact zAP (s':=⟨nx,xs,ha,hn⟩) RV4.out (by have:=BD.out;simpa using this) hlen rfl H0.out (fun _=>⟨rfl,rfl⟩)
  | true =>
   clear l5 l10;go_upto_region 44 with (fail);have RV4:=hid (RV2.out.zCl (IntKind.u64.wrap (pc+iw)));clear c0 zh e0 e1 e2 z1 d0 d1;generalize V.setCell ⟨hb,0,none⟩ (.int .u64 (IntKind.u64.wrap (pc+iw)))=V4 at *;obtain ⟨e0,e1,e2⟩:=zD RV4.out.res;have z1:=free_at RV4.out.res;go_wp2_with fail;refine zzb (results_cell_row rfl _ _ (w.heap.size+1) 33 _ (0,0) _ rfl (RV4.out.fin 0 0 0).1 underlying33 rfl (by kernel_rfl)) rfl ?_;exact zAP (s':=⟨IntKind.u64.wrap (pc+iw),xs,ha,hn⟩) RV4.out (by have:=BD.out;simpa using this) hlen rfl H0.out (fun _=>⟨rfl,rfl⟩)
 have nbr:=hbr;clear hbr;by_cases hst:18≤op∧op≤21
 ·have HST:=hid hst;have e9:rsz op=swid op:=by unfold rsz;rw [if_neg (by omega),if_pos hst]
  obtain ⟨l18,l21⟩:=hst;rw [e9];obtain ⟨A,hA⟩:=zze (zAK (rx xs r+iw)).1;have hA2:=(zAK (rx xs r+iw)).2;rw [hA] at hA2;have AD:Hid (adr xs ⟨op,q,r,t,im,od,sz⟩=(A:Int)):=hid (by unfold adr;simp only [IW.out];exact hA);have cs:=zHG RV2.out.rp A (swid op) (rx xs t) (by omega) (zJe op);have HAE:=hid hA;clear hA;rw [← HAE.out] at cs;have c35:=RV2.out.hat.rbc;unfold zB at cs c35;clear hA2 e9;go_upto_region 28 with (fail);go_wp2_with fail;with_reducible refine cs.mono ?_
  rintro e w2 hh;unfold zDY at hh;obtain ⟨k,y,rfl,hh⟩:=hh;clear l18 l21 cs;unfold zt;rcases hh with ⟨rfl,g1,g2,g3,g4,kk⟩|⟨rfl,rfl,g1,g2,kk⟩
  ·have FI:=hid (And.intro g1 (And.intro g2 (And.intro g3 g4)));clear g1 g2 g3 g4;have RVw:=hid (RV2.out.bl kk);clear kk;go_upto_region 29 with (fail);have kx:=Bl.new w2 (.cells #[.int .i64 2,.int .u64 y] 31);have FB:=hid (zzn w2 (.cells #[.int .i64 2,.int .u64 y] 31));have RV4:=hid (RVw.out.bl kx);clear c0 zh e0 e1 e2 z1 d0 d1 kx c35;generalize w2.alloc (.cells #[.int .i64 2,.int .u64 y] 31)=V4 at *;obtain ⟨f0,f1⟩:=zIj FB.out;obtain ⟨e0,e1,e2⟩:=zD RV4.out.res;have z1:=free_at RV4.out.res;go_wp2_with fail;refine zzb (results_cell_row rfl _ _ (w.heap.size+1) 33 _ (0,0) _ rfl (RV4.out.fin 4 2 y).1 underlying33 rfl (by kernel_rfl)) rfl ?_;exact zAP (s':=⟨pc,xs,0,0⟩) RV4.out (DoIs.storeBad y HST.out (by unfold zg;simp only [AD.out];exact FI.out)) hlen rfl H0.out (fun e=>by cases e)
  ·have ALL:=hid g1;clear g1;have RVw:=hid (RV2.out.zJV g2 kk);clear kk g2;go_upto_region 29 with (fail);have kx:=Bl.new w2 (.cells #[.int .i64 0,.int .u64 0] 31);have FB:=hid (zzn w2 (.cells #[.int .i64 0,.int .u64 0] 31));have RV4:=hid (RVw.out.bl kx);clear c0 zh e0 e1 e2 z1 d0 d1 kx c35;generalize w2.alloc (.cells #[.int .i64 0,.int .u64 0] 31)=V4 at *;obtain ⟨f0,f1⟩:=zIj FB.out;obtain ⟨d0,d1,d2,d3,d4,d5,d6⟩:=zI RV4.out.box;clear d2 d3 d4 d5 d6;have c0:=RV4.out.hat.pcs;have z0:V4.frozen? ⟨hb,0,none⟩=false:=by simp [World.frozen?,RV4.out.hat.blk]
   go_upto_region 44 with (fail);have RV9:=hid (RV4.out.zCl (nx));clear c0 z0;generalize V4.setCell ⟨hb,0,none⟩ (.int .u64 (nx))=V9 at *;obtain ⟨e0,e1,e2⟩:=zD RV9.out.res;have z1:=free_at RV9.out.res;go_wp2_with fail;refine zzb (results_cell_row rfl _ _ (w.heap.size+1) 33 _ (0,0) _ rfl (RV9.out.fin 0 0 0).1 underlying33 rfl (by kernel_rfl)) rfl ?_;exact zAP (s':=⟨nx,xs,ha,hn⟩) RV9.out (by rw [← NX.out,show A=(adr xs ⟨op,q,r,t,im,od,sz⟩).toNat by rw [AD.out];rfl];exact DoIs.storeOk HST.out (by unfold zAi;simp only [AD.out];exact ALL.out)) (hlen) rfl (H0.out) (fun _=>⟨rfl,rfl⟩)
 have nst:=hst;clear hst;by_cases hlo:11≤op∧op≤17
 ·have HLO:=hid hlo;have e9:rsz op=lwid op:=by unfold rsz;rw [if_pos hlo]
  obtain ⟨l11,l17⟩:=hlo;rw [e9];obtain ⟨A,hA⟩:=zze (zAK (rx xs r+iw)).1;have hA2:=(zAK (rx xs r+iw)).2;rw [hA] at hA2;have AD:Hid (adr xs ⟨op,q,r,t,im,od,sz⟩=(A:Int)):=hid (by unfold adr;simp only [IW.out];exact hA);have cs:=zIX RV2.out.rp A (lwid op) (by omega) (zEY op);have HAE:=hid hA;clear hA;rw [← HAE.out] at cs;have c35:=RV2.out.hat.rbc;have lw0:(0:Int)<(lwid op:Int):=by rcases zEY op with e|e|e|e<;>rw [e]<;>decide
  have lw8:(lwid op:Int)≤8:=by rcases zEY op with e|e|e|e<;>rw [e]<;>decide
  unfold zB at cs c35;clear hA2 e9;go_upto_region 32 with (fail);go_wp2_with fail;with_reducible refine cs.mono ?_
  rintro e w2 hh;unfold zEO at hh;obtain ⟨v,k,y,rfl,hh,kk⟩:=hh;clear cs;have RVw:=hid (RV2.out.bl kk);clear kk;unfold zt;rcases hh with ⟨rfl,rfl,g1,g2,g3,g4⟩|⟨rfl,rfl,hv,g1⟩
  ·have FI:=hid (And.intro g1 (And.intro g2 (And.intro g3 g4)));clear g1 g2 g3 g4 l11 l17 lw8;go_upto_region 33 with (fail);have kx:=Bl.new w2 (.cells #[.int .i64 1,.int .u64 y] 31);have FB:=hid (zzn w2 (.cells #[.int .i64 1,.int .u64 y] 31));have RV4:=hid (RVw.out.bl kx);clear c0 zh e0 e1 e2 z1 d0 d1 kx c35;generalize w2.alloc (.cells #[.int .i64 1,.int .u64 y] 31)=V4 at *;obtain ⟨f0,f1⟩:=zIj FB.out;obtain ⟨e0,e1,e2⟩:=zD RV4.out.res;have z1:=free_at RV4.out.res;go_wp2_with fail;refine zzb (results_cell_row rfl _ _ (w.heap.size+1) 33 _ (0,0) _ rfl (RV4.out.fin 4 1 y).1 underlying33 rfl (by kernel_rfl)) rfl ?_;exact zAP (s':=⟨pc,xs,0,0⟩) RV4.out (DoIs.loadBad y HLO.out (by unfold zg;simp only [AD.out];exact FI.out)) hlen rfl H0.out (fun e=>by cases e)
  ·have ALL:=hid g1;clear g1;have HV:=hid hv;clear hv;go_upto_region 33 with (fail);have kx:=Bl.new w2 (.cells #[.int .i64 0,.int .u64 0] 31);have FB:=hid (zzn w2 (.cells #[.int .i64 0,.int .u64 0] 31));have RV4:=hid (RVw.out.bl kx);clear c0 zh e0 e1 e2 z1 d0 d1 kx c35;generalize w2.alloc (.cells #[.int .i64 0,.int .u64 0] 31)=V4 at *;obtain ⟨f0,f1⟩:=zIj FB.out;obtain ⟨d0,d1,d2,d3,d4,d5,d6⟩:=zI RV4.out.box;clear d2 d3 d4 d5 d6;by_cases h14:op≤14
   ·have n15:(op != 15)=true:=by simp;omega
    have n16:(op != 16)=true:=by simp;omega
    have n17:(op != 17)=true:=by simp;omega
    have H14:=hid h14;clear h14 l11 l17;have hv0:0≤v:=by rw [HV.out];exact (zFC RV2.out.rp.by_ A (lwid op) (zEY op)).1
    have cx:=fun W'=>zZ v (8*(lwid op:Int)) W' hv0
    go_wp2_with fail;with_reducible refine (cx V4).mono ?_
    rintro e w5 ⟨rfl,rfl⟩;clear cx n15 n16 n17 lw0 lw8 hv0 f0 f1;have cX:=RV4.out.hat.x q RB.out.2.2;have zX:V4.frozen? ⟨hb,1+q,none⟩=false:=by simp [World.frozen?,RV4.out.hat.blk]
    go_upto_region 37 with (fail);go_region
    all_goals (
     (try simp only [Exit.inBlock,Exit.then])
     have RV7:=hid ((RV4.out.setX q RB.out.2.2 (zV v (8*(lwid op:Int)))).bl ((Bl.refl _).drew));clear cX zX d0 d1;generalize (V4.setCell ⟨hb,1+q,none⟩ (.int .u64 (zV v (8*(lwid op:Int))))).drew=V7 at *;have c0:=RV7.out.hat.pcs;have z0:V7.frozen? ⟨hb,0,none⟩=false:=by simp [World.frozen?,RV7.out.hat.blk]
     go_upto_region 44 with (fail);have RV9:=hid (RV7.out.zCl (nx));clear c0 z0;generalize V7.setCell ⟨hb,0,none⟩ (.int .u64 (nx))=V9 at *;obtain ⟨e0,e1,e2⟩:=zD RV9.out.res;have z1:=free_at RV9.out.res;go_wp2_with fail;refine zzb (results_cell_row rfl _ _ (w.heap.size+1) 33 _ (0,0) _ rfl (RV9.out.fin 0 0 0).1 underlying33 rfl (by kernel_rfl)) rfl ?_;exact zAP (s':=⟨nx,setX xs q (zV v (8*(lwid op:Int))),ha,hn⟩) RV9.out (by have h1:=DoIs.loadOk (L:=regs P) (M:=M) (s:=⟨pc,xs,ha,hn⟩) (i:=⟨op,q,r,t,im,od,sz⟩) HLO.out (by unfold zAi;simp only [AD.out];exact ALL.out);simp only [AD.out,Int.toNat_natCast,← HV.out,zHT,if_pos H14.out,St.nxt,NX.out] at h1;exact h1) (by simp [hlen]) rfl (rfl) (fun _=>⟨rfl,rfl⟩)
    )
   ·rcases (by omega:op=15∨op=16∨op=17) with rfl|rfl|rfl;all_goals (
     clear h14 l11 l17;go_upto_region 37 with (fail);clear lw0 lw8 f0 f1;have cX:=RV4.out.hat.x q RB.out.2.2;have zX:V4.frozen? ⟨hb,1+q,none⟩=false:=by simp [World.frozen?,RV4.out.hat.blk]
     go_upto_region 37 with (fail);go_region
     all_goals (
      (try simp only [Exit.inBlock,Exit.then])
      have RV7:=hid ((RV4.out.setX q RB.out.2.2 (v)).bl ((Bl.refl _).drew));clear cX zX d0 d1;generalize (V4.setCell ⟨hb,1+q,none⟩ (.int .u64 (v))).drew=V7 at *;have c0:=RV7.out.hat.pcs;have z0:V7.frozen? ⟨hb,0,none⟩=false:=by simp [World.frozen?,RV7.out.hat.blk]
      go_upto_region 44 with (fail);have RV9:=hid (RV7.out.zCl (nx));clear c0 z0;generalize V7.setCell ⟨hb,0,none⟩ (.int .u64 (nx))=V9 at *;obtain ⟨e0,e1,e2⟩:=zD RV9.out.res;have z1:=free_at RV9.out.res;go_wp2_with fail;refine zzb (results_cell_row rfl _ _ (w.heap.size+1) 33 _ (0,0) _ rfl (RV9.out.fin 0 0 0).1 underlying33 rfl (by kernel_rfl)) rfl ?_;exact zAP (s':=⟨nx,setX xs q (v),ha,hn⟩) RV9.out (by have h1:=DoIs.loadOk (L:=regs P) (M:=M) (s:=⟨pc,xs,ha,hn⟩) (i:=⟨_,q,r,t,im,od,sz⟩) HLO.out (by unfold zAi;simp only [AD.out];exact ALL.out);simp only [AD.out,Int.toNat_natCast,← HV.out,zHT,show ¬ ((15:Int)≤14) by decide,show ¬ ((16:Int)≤14) by decide,show ¬ ((17:Int)≤14) by decide,if_false,St.nxt,NX.out] at h1;exact h1) (by simp [hlen]) rfl (rfl) (fun _=>⟨rfl,rfl⟩)
     ))
 have nlo:=hlo;clear hlo;have e9:rsz op=0:=by unfold rsz;rw [if_neg nlo,if_neg nst]
 rw [e9,show ((0:Nat):Int)=0 from rfl];clear e9;by_cases hat_:63≤op∧op≤84
 ·have HAT_:=hid hat_;obtain ⟨l63,l84⟩:=hat_;obtain ⟨A,hA⟩:=zze (HR.out.rx r).1;have hA2:=(HR.out.rx r).2;rw [hA] at hA2;have cs:=ratom_any RV2.out.rp RV2.out.hat (fun e=>RV2.out.nS e.1) op A (rx xs t) (by omega) (HR.out.rx t).1 (HR.out.rx t).2;have HAE:=hid hA;clear hA;rw [← HAE.out] at cs;unfold zB at cs;clear hA2;go_upto_region 39 with (fail);go_wp2_with fail;with_reducible refine cs.mono ?_
  rintro e w2 hh;unfold zAw at hh;obtain ⟨o,M',rfl,hs,hh2,hr2,kk⟩:=hh;have RVw:=hid (RV2.out.aturn kk hh2 hr2);clear kk hh2 hr2 cs l63 l84;obtain ⟨y,ta,tn,k,fk,fa⟩:=o;simp only at RVw;have HS:=hid hs;clear hs;unfold zAD;go_upto_region 40 with (fail);have kx:=Bl.new w2 (.cells #[.int .i64 k,.int .i64 fk,.int .u64 fa] 33);have FB:=hid (zzn w2 (.cells #[.int .i64 k,.int .i64 fk,.int .u64 fa] 33));have RV4:=hid (RVw.out.bl kx);clear c0 zh e0 e1 e2 z1 d0 d1 kx;(try simp only)
  generalize w2.alloc (.cells #[.int .i64 k,.int .i64 fk,.int .u64 fa] 33)=V4 at *;obtain ⟨f0,f1,f2⟩:=zD FB.out;obtain ⟨d0,d1,d2,d3,d4,d5,d6⟩:=zI RV4.out.box;clear d2 d3 d4 d5 d6;by_cases hk:k=0
  ·subst hk;have HZ:=hid (zFc HS.out rfl);have cX:=RV4.out.hat.x q RB.out.2.2;have zX:V4.frozen? ⟨hb,1+q,none⟩=false:=by simp [World.frozen?,RV4.out.hat.blk]
   go_upto_region 42 with (fail);go_region
   all_goals (
    (try simp only [Exit.inBlock,Exit.then])
    have RV7:=hid ((RV4.out.setX q RB.out.2.2 (y)).bl ((Bl.refl _).drew));clear cX zX d0 d1 f0 f1 f2;generalize (V4.setCell ⟨hb,1+q,none⟩ (.int .u64 (y))).drew=V7 at *;have c0:=RV7.out.hat.pcs;have z0:V7.frozen? ⟨hb,0,none⟩=false:=by simp [World.frozen?,RV7.out.hat.blk]
    go_upto_region 44 with (fail);have RV9:=hid (RV7.out.zCl (nx));clear c0 z0;generalize V7.setCell ⟨hb,0,none⟩ (.int .u64 (nx))=V9 at *;obtain ⟨e0,e1,e2⟩:=zD RV9.out.res;have z1:=free_at RV9.out.res;go_wp2_with fail;refine zzb (results_cell_row rfl _ _ (w.heap.size+1) 33 _ (0,0) _ rfl (RV9.out.fin 0 0 0).1 underlying33 rfl (by kernel_rfl)) rfl ?_;exact zAP (s':=⟨nx,setX xs q (y),ta,tn⟩) RV9.out (by have h1:=DoIs.atomOk (s:=⟨pc,xs,ha,hn⟩) (i:=⟨op,q,r,t,im,od,sz⟩) _ _ HAT_.out (by show zO (regs P) M ha hn op (rx xs r).toNat (rx xs t) _ _;rw [show (rx xs r).toNat=A by rw [HAE.out];rfl];exact HS.out) rfl;simp only [HZ.out.1,HZ.out.2,St.nxt,NX.out] at h1;exact h1) (by simp [hlen]) rfl (rfl) (fun _=>⟨rfl,rfl⟩)
   )
  ·have hk':=nin hk;obtain ⟨e0,e1,e2⟩:=zD RV4.out.res;have z1:=free_at RV4.out.res;go_wp2_with fail;refine zzb (results_cell_row rfl _ _ (w.heap.size+1) 33 _ (0,0) _ rfl (RV4.out.fin k fk fa).1 underlying33 rfl (by kernel_rfl)) rfl ?_;exact zAP (s':=⟨pc,xs,0,0⟩) RV4.out (DoIs.atomBad (s:=⟨pc,xs,ha,hn⟩) (i:=⟨op,q,r,t,im,od,sz⟩) _ _ HAT_.out (by show zO (regs P) M ha hn op (rx xs r).toNat (rx xs t) _ _;rw [show (rx xs r).toNat=A by rw [HAE.out];rfl];exact HS.out) hk) hlen rfl H0.out (fun e=>absurd e hk)
 have HCK:Hid (op=1∨(22≤op∧op≤62)∨op≤0∨88<op):=hid (by have f1:=hfe;omega);have iwb:=zAK im;rw [IW.out] at iwb;have IB:=hid iwb;clear iwb;by_cases him_:zCe op
 ·have HIM:=hid him_;unfold zCe at him_;rcases him_ with h1|⟨h1,h1'⟩|⟨h1,h1'⟩
  ·have m1:(op==1)=true:=by simp [h1]
   have h5:op<5:=by omega
   have h0:0<op:=by omega
   clear h1;have cd:=zET op (rx xs r) iw V (HR.out.rx r) IB.out;go_wp2_with fail;with_reducible refine cd.mono ?_
   rintro e w2 ⟨rfl,rfl⟩;clear cd;have cX:=RV2.out.hat.x q RB.out.2.2;have zX:V.frozen? ⟨hb,1+q,none⟩=false:=by simp [World.frozen?,RV2.out.hat.blk]
   go_upto_region 9 with (fail);go_region
   all_goals (
    (try simp only [Exit.inBlock,Exit.then])
    have RV7:=hid ((RV2.out.setX q RB.out.2.2 (doA op (rx xs r) iw)).bl ((Bl.refl _).drew));clear cX zX c0 zh e0 e1 e2 z1 d0 d1;generalize (V.setCell ⟨hb,1+q,none⟩ (.int .u64 (doA op (rx xs r) iw))).drew=V7 at *;have c0:=RV7.out.hat.pcs;have z0:V7.frozen? ⟨hb,0,none⟩=false:=by simp [World.frozen?,RV7.out.hat.blk]
    go_upto_region 44 with (fail);have RV9:=hid (RV7.out.zCl (nx));clear c0 z0;generalize V7.setCell ⟨hb,0,none⟩ (.int .u64 (nx))=V9 at *;obtain ⟨e0,e1,e2⟩:=zD RV9.out.res;have z1:=free_at RV9.out.res;go_wp2_with fail;refine zzb (results_cell_row rfl _ _ (w.heap.size+1) 33 _ (0,0) _ rfl (RV9.out.fin 0 0 0).1 underlying33 rfl (by kernel_rfl)) rfl ?_;exact zAP (s':=⟨nx,setX xs q (doA op (rx xs r) iw),ha,hn⟩) RV9.out (by have h1:=DoIs.reck (L:=regs P) (M:=M) (s:=⟨pc,xs,ha,hn⟩) (i:=⟨op,q,r,t,im,od,sz⟩) HCK.out;simp only [recV,if_pos HIM.out,St.nxt,NX.out,IW.out] at h1;exact h1) (by simp [hlen]) rfl (rfl) (fun _=>⟨rfl,rfl⟩)
   )
  all_goals (
   have m1:(op==1)=false:=nin (by omega);have cd:=zET op (rx xs r) iw V (HR.out.rx r) IB.out;go_wp2_with fail;with_reducible refine cd.mono ?_
   rintro e w2 ⟨rfl,rfl⟩;clear cd;have cX:=RV2.out.hat.x q RB.out.2.2;have zX:V.frozen? ⟨hb,1+q,none⟩=false:=by simp [World.frozen?,RV2.out.hat.blk]
   go_upto_region 9 with (fail);go_region
   all_goals (
    (try simp only [Exit.inBlock,Exit.then])
    have RV7:=hid ((RV2.out.setX q RB.out.2.2 (doA op (rx xs r) iw)).bl ((Bl.refl _).drew));clear cX zX c0 zh e0 e1 e2 z1 d0 d1;generalize (V.setCell ⟨hb,1+q,none⟩ (.int .u64 (doA op (rx xs r) iw))).drew=V7 at *;have c0:=RV7.out.hat.pcs;have z0:V7.frozen? ⟨hb,0,none⟩=false:=by simp [World.frozen?,RV7.out.hat.blk]
    go_upto_region 44 with (fail);have RV9:=hid (RV7.out.zCl (nx));clear c0 z0;generalize V7.setCell ⟨hb,0,none⟩ (.int .u64 (nx))=V9 at *;obtain ⟨e0,e1,e2⟩:=zD RV9.out.res;have z1:=free_at RV9.out.res;go_wp2_with fail;refine zzb (results_cell_row rfl _ _ (w.heap.size+1) 33 _ (0,0) _ rfl (RV9.out.fin 0 0 0).1 underlying33 rfl (by kernel_rfl)) rfl ?_;exact zAP (s':=⟨nx,setX xs q (doA op (rx xs r) iw),ha,hn⟩) RV9.out (by have h1:=DoIs.reck (L:=regs P) (M:=M) (s:=⟨pc,xs,ha,hn⟩) (i:=⟨op,q,r,t,im,od,sz⟩) HCK.out;simp only [recV,if_pos HIM.out,St.nxt,NX.out,IW.out] at h1;exact h1) (by simp [hlen]) rfl (rfl) (fun _=>⟨rfl,rfl⟩)
   ))
 ·have HIM:=hid him_;unfold zCe at him_;have m1:(op==1)=false:=nin (by omega);rcases (by have:=HCK.out;omega:(31≤op∧op≤40)∨(45≤op∧op≤62)∨op≤0∨88<op) with ⟨h1,h1'⟩|⟨h1,h1'⟩|h1|h1;all_goals (
   clear him_;have cd:=zET op (rx xs r) (rx xs t) V (HR.out.rx r) (HR.out.rx t);go_wp2_with fail;with_reducible refine cd.mono ?_
   rintro e w2 ⟨rfl,rfl⟩;clear cd;have cX:=RV2.out.hat.x q RB.out.2.2;have zX:V.frozen? ⟨hb,1+q,none⟩=false:=by simp [World.frozen?,RV2.out.hat.blk]
   go_upto_region 9 with (fail);go_region
   all_goals (
    (try simp only [Exit.inBlock,Exit.then])
    have RV7:=hid ((RV2.out.setX q RB.out.2.2 (doA op (rx xs r) (rx xs t))).bl ((Bl.refl _).drew));clear cX zX c0 zh e0 e1 e2 z1 d0 d1;generalize (V.setCell ⟨hb,1+q,none⟩ (.int .u64 (doA op (rx xs r) (rx xs t)))).drew=V7 at *;have c0:=RV7.out.hat.pcs;have z0:V7.frozen? ⟨hb,0,none⟩=false:=by simp [World.frozen?,RV7.out.hat.blk]
    go_upto_region 44 with (fail);have RV9:=hid (RV7.out.zCl (nx));clear c0 z0;generalize V7.setCell ⟨hb,0,none⟩ (.int .u64 (nx))=V9 at *;obtain ⟨e0,e1,e2⟩:=zD RV9.out.res;have z1:=free_at RV9.out.res;go_wp2_with fail;refine zzb (results_cell_row rfl _ _ (w.heap.size+1) 33 _ (0,0) _ rfl (RV9.out.fin 0 0 0).1 underlying33 rfl (by kernel_rfl)) rfl ?_;exact zAP (s':=⟨nx,setX xs q (doA op (rx xs r) (rx xs t)),ha,hn⟩) RV9.out (by have h1:=DoIs.reck (L:=regs P) (M:=M) (s:=⟨pc,xs,ha,hn⟩) (i:=⟨op,q,r,t,im,od,sz⟩) HCK.out;simp only [recV,if_neg HIM.out,St.nxt,NX.out,IW.out] at h1;exact h1) (by simp [hlen]) rfl (rfl) (fun _=>⟨rfl,rfl⟩)
   ))
end
structure IZ (V:World) (A:Ans) (f1 f2:Nat) (Z:World):Prop where
 bl:Bl V Z
 box:Z.heap[f1]?=some (.cells (Td.I7 A.i.op A.i.rd A.i.r1 A.i.r2 A.i.im A.i.od A.i.sz) 38 (0,0))
 stp:Z.heap[f2]?=some (.cells #[.int .i64 A.k,.int .i64 A.fk,.int .u64 A.fa] 33 (0,0))
 ge1:V.heap.size≤f1
 ge2:V.heap.size≤f2
section
variable {V w4:World} {a0 a1 a2 a3 a4 a5 a6 k fk fa:Int}
theorem iz1 (h:Bl V w4):IZ V ⟨⟨a0,a1,a2,a3,a4,a5,a6⟩,k,fk,fa⟩ w4.heap.size (w4.heap.size+1) ((w4.alloc (.cells (Td.I7 a0 a1 a2 a3 a4 a5 a6) 38)).alloc (.cells #[.int .i64 k,.int .i64 fk,.int .u64 fa] 33)):=
 ⟨(h.alloc _).alloc _,(Bl.new _ _).at_ (zzn w4 (.cells (Td.I7 a0 a1 a2 a3 a4 a5 a6) 38)),zBB w4 _ _,h.size,Nat.le_succ_of_le h.size⟩
theorem iz2 (h:Bl V w4):IZ V ⟨⟨a0,a1,a2,a3,a4,a5,a6⟩,k,fk,fa⟩ (w4.heap.size+1) w4.heap.size ((w4.alloc (.cells #[.int .i64 k,.int .i64 fk,.int .u64 fa] 33)).alloc (.cells (Td.I7 a0 a1 a2 a3 a4 a5 a6) 38)):=
 ⟨(h.alloc _).alloc _,zBB w4 _ _,(Bl.new _ _).at_ (zzn w4 (.cells #[.int .i64 k,.int .i64 fk,.int .u64 fa] 33)),Nat.le_succ_of_le h.size,h.size⟩
theorem iz3 (h:Bl V w4) (FA:w4.heap[V.heap.size]?=some (.cells (Td.I7 0 0 0 0 0 0 0) 38 (0,0))):IZ V ⟨⟨a0,a1,a2,a3,a4,a5,a6⟩,k,fk,fa⟩ V.heap.size w4.heap.size ((((((((w4.setCell ⟨V.heap.size,0,none⟩ (.int .i64 a0)).setCell ⟨V.heap.size,1,none⟩ (.int .i64 a1)).setCell ⟨V.heap.size,2,none⟩ (.int .i64 a2)).setCell ⟨V.heap.size,3,none⟩ (.int .i64 a3)).setCell ⟨V.heap.size,4,none⟩ (.int .i64 a4)).setCell ⟨V.heap.size,5,none⟩ (.int .i64 a5)).setCell ⟨V.heap.size,6,none⟩ (.int .i64 a6)).alloc (.cells #[.int .i64 k,.int .i64 fk,.int .u64 fa] 33)):=by
 have hs:(((((((w4.setCell ⟨V.heap.size,0,none⟩ (.int .i64 a0)).setCell ⟨V.heap.size,1,none⟩ (.int .i64 a1)).setCell ⟨V.heap.size,2,none⟩ (.int .i64 a2)).setCell ⟨V.heap.size,3,none⟩ (.int .i64 a3)).setCell ⟨V.heap.size,4,none⟩ (.int .i64 a4)).setCell ⟨V.heap.size,5,none⟩ (.int .i64 a5)).setCell ⟨V.heap.size,6,none⟩ (.int .i64 a6)).heap.size=w4.heap.size:=by simp [World.setCell]
 have h7:=bl7 h (zzr _) (.int .i64 a0) (.int .i64 a1) (.int .i64 a2) (.int .i64 a3) (.int .i64 a4) (.int .i64 a5) (.int .i64 a6);have hn:=zzn (((((((w4.setCell ⟨V.heap.size,0,none⟩ (.int .i64 a0)).setCell ⟨V.heap.size,1,none⟩ (.int .i64 a1)).setCell ⟨V.heap.size,2,none⟩ (.int .i64 a2)).setCell ⟨V.heap.size,3,none⟩ (.int .i64 a3)).setCell ⟨V.heap.size,4,none⟩ (.int .i64 a4)).setCell ⟨V.heap.size,5,none⟩ (.int .i64 a5)).setCell ⟨V.heap.size,6,none⟩ (.int .i64 a6)) (.cells #[.int .i64 k,.int .i64 fk,.int .u64 fa] 33);rw [hs] at hn;exact ⟨h7.alloc _,(Bl.new _ _).at_ (set7 (.int .i64 a0) (.int .i64 a1) (.int .i64 a2) (.int .i64 a3) (.int .i64 a4) (.int .i64 a5) (.int .i64 a6) FA),hn,zzr _,h.size⟩
theorem iz4 (h:Bl V w4) (FA:w4.heap[V.heap.size]?=some (.cells (Td.I7 0 0 0 0 0 0 0) 38 (0,0))) (FB:w4.heap[V.heap.size+1]?=some (.cells #[.int .i64 0,.int .i64 0,.int .u64 0] 33 (0,0))):IZ V ⟨⟨a0,a1,a2,a3,a4,a5,a6⟩,k,fk,fa⟩ V.heap.size (V.heap.size+1) ((((((((((w4.setCell ⟨V.heap.size,0,none⟩ (.int .i64 a0)).setCell ⟨V.heap.size,1,none⟩ (.int .i64 a1)).setCell ⟨V.heap.size,2,none⟩ (.int .i64 a2)).setCell ⟨V.heap.size,3,none⟩ (.int .i64 a3)).setCell ⟨V.heap.size,4,none⟩ (.int .i64 a4)).setCell ⟨V.heap.size,5,none⟩ (.int .i64 a5)).setCell ⟨V.heap.size,6,none⟩ (.int .i64 a6)).setCell ⟨V.heap.size+1,0,none⟩ (.int .i64 k)).setCell ⟨V.heap.size+1,1,none⟩ (.int .i64 fk)).setCell ⟨V.heap.size+1,2,none⟩ (.int .u64 fa)):=
 ⟨bl3 (bl7 h (zzr _) (.int .i64 a0) (.int .i64 a1) (.int .i64 a2) (.int .i64 a3) (.int .i64 a4) (.int .i64 a5) (.int .i64 a6)) (Nat.le_succ _) (.int .i64 k) (.int .i64 fk) (.int .u64 fa),oth3 (set7 (.int .i64 a0) (.int .i64 a1) (.int .i64 a2) (.int .i64 a3) (.int .i64 a4) (.int .i64 a5) (.int .i64 a6) FA) (by omega) (.int .i64 k) (.int .i64 fk) (.int .u64 fa),set3 (.int .i64 k) (.int .i64 fk) (.int .u64 fa) (oth7 FB (by omega) (.int .i64 a0) (.int .i64 a1) (.int .i64 a2) (.int .i64 a3) (.int .i64 a4) (.int .i64 a5) (.int .i64 a6)),zzr _,Nat.le_succ _⟩
theorem iz5 (h:Bl V w4) (FB:w4.heap[V.heap.size]?=some (.cells #[.int .i64 0,.int .i64 0,.int .u64 0] 33 (0,0))):IZ V ⟨⟨a0,a1,a2,a3,a4,a5,a6⟩,k,fk,fa⟩ w4.heap.size V.heap.size ((((w4.setCell ⟨V.heap.size,0,none⟩ (.int .i64 k)).setCell ⟨V.heap.size,1,none⟩ (.int .i64 fk)).setCell ⟨V.heap.size,2,none⟩ (.int .u64 fa)).alloc (.cells (Td.I7 a0 a1 a2 a3 a4 a5 a6) 38)):=by
 have hs:(((w4.setCell ⟨V.heap.size,0,none⟩ (.int .i64 k)).setCell ⟨V.heap.size,1,none⟩ (.int .i64 fk)).setCell ⟨V.heap.size,2,none⟩ (.int .u64 fa)).heap.size=w4.heap.size:=by simp [World.setCell]
 have h3:=bl3 h (zzr _) (.int .i64 k) (.int .i64 fk) (.int .u64 fa);have hn:=zzn (((w4.setCell ⟨V.heap.size,0,none⟩ (.int .i64 k)).setCell ⟨V.heap.size,1,none⟩ (.int .i64 fk)).setCell ⟨V.heap.size,2,none⟩ (.int .u64 fa)) (.cells (Td.I7 a0 a1 a2 a3 a4 a5 a6) 38);rw [hs] at hn;exact ⟨h3.alloc _,hn,(Bl.new _ _).at_ (set3 (.int .i64 k) (.int .i64 fk) (.int .u64 fa) FB),h.size,zzr _⟩
theorem iz6 (h:Bl V w4) (FA:w4.heap[V.heap.size+1]?=some (.cells (Td.I7 0 0 0 0 0 0 0) 38 (0,0))) (FB:w4.heap[V.heap.size]?=some (.cells #[.int .i64 0,.int .i64 0,.int .u64 0] 33 (0,0))):IZ V ⟨⟨a0,a1,a2,a3,a4,a5,a6⟩,k,fk,fa⟩ (V.heap.size+1) V.heap.size ((((((((((w4.setCell ⟨V.heap.size+1,0,none⟩ (.int .i64 a0)).setCell ⟨V.heap.size+1,1,none⟩ (.int .i64 a1)).setCell ⟨V.heap.size+1,2,none⟩ (.int .i64 a2)).setCell ⟨V.heap.size+1,3,none⟩ (.int .i64 a3)).setCell ⟨V.heap.size+1,4,none⟩ (.int .i64 a4)).setCell ⟨V.heap.size+1,5,none⟩ (.int .i64 a5)).setCell ⟨V.heap.size+1,6,none⟩ (.int .i64 a6)).setCell ⟨V.heap.size,0,none⟩ (.int .i64 k)).setCell ⟨V.heap.size,1,none⟩ (.int .i64 fk)).setCell ⟨V.heap.size,2,none⟩ (.int .u64 fa)):=
 ⟨bl3 (bl7 h (Nat.le_succ _) (.int .i64 a0) (.int .i64 a1) (.int .i64 a2) (.int .i64 a3) (.int .i64 a4) (.int .i64 a5) (.int .i64 a6)) (zzr _) (.int .i64 k) (.int .i64 fk) (.int .u64 fa),oth3 (set7 (.int .i64 a0) (.int .i64 a1) (.int .i64 a2) (.int .i64 a3) (.int .i64 a4) (.int .i64 a5) (.int .i64 a6) FA) (by omega) (.int .i64 k) (.int .i64 fk) (.int .u64 fa),set3 (.int .i64 k) (.int .i64 fk) (.int .u64 fa) (oth7 FB (by omega) (.int .i64 a0) (.int .i64 a1) (.int .i64 a2) (.int .i64 a3) (.int .i64 a4) (.int .i64 a5) (.int .i64 a6)),Nat.le_succ _,zzr _⟩
end
structure RS (S:Nat→Prop) (w:World) (hb rb:Nat) (P:List Pg) (M:Nat→Int) (mo b0 b1 pc:Int) (xs:List Int) (ha hn:Int) (f2:Nat) (k fk fa:Int) (Y:World):Prop where
 hat:HAt Y hb rb pc xs ha hn
 stp:Y.heap[f2]?=some (.cells #[.int .i64 k,.int .i64 fk,.int .u64 fa] 33 (0,0))
 res:Y.heap[w.heap.size]?=some (.cells #[.int .i64 0,.int .i64 0,.int .u64 0] 33 (0,0))
 rp:RP (fun b=>S b∧b<w.heap.size) Y rb P M mo b0 b1
 fr:Fr (fun b=>S b∨b=hb) w Y
 lt:hb<w.heap.size
 gt:w.heap.size<f2
 nS:¬ S hb
section
variable {S:Nat→Prop} {mo b0 b1:Int} {w Y Y':World} {hb rb f2:Nat} {P:List Pg} {M:Nat→Int} {pc ha hn k fk fa:Int} {xs:List Int}
variable {ha' hn' pc':Int} {xs':List Int}
theorem RS.turn (h:RS S w hb rb P M mo b0 b1 pc xs ha hn f2 k fk fa Y) (f:Fr (only hb) Y Y') (hh:HAt Y' hb rb pc' xs' ha' hn'):RS S w hb rb P M mo b0 b1 pc' xs' ha' hn' f2 k fk fa Y':=by
 have hl:=h.lt;have hg:=h.gt;exact ⟨hh,f.at_ h.stp (fun e=>by have e3:f2=hb:=e;omega),f.at_ h.res (fun e=>by have e3:w.heap.size=hb:=e;omega),h.rp.kept f (fun b _ e e2=>h.nS (by rw [← (show b=hb from e2)];exact e.1)),h.fr.trans (f.mono fun b _ e=>.inr e),hl,hg,h.nS⟩
theorem RS.x0 (h:RS S w hb rb P M mo b0 b1 pc xs ha hn f2 k fk fa Y):RS S w hb rb P M mo b0 b1 pc (xs.set 0 0) ha hn f2 k fk fa (Y.setCell ⟨hb,1,none⟩ (.int .u64 0)):=
 h.turn (Fr.set (S:=only hb) (p:=⟨hb,1,none⟩) rfl _) (h.hat.zFg 0 (by decide) 0)
theorem RS.rest (h:RS S w hb rb P M mo b0 b1 pc xs ha hn f2 k fk fa Y):RS S w hb rb P M mo b0 b1 pc xs 0 0 f2 k fk fa ((Y.setCell ⟨hb,33,none⟩ (.int .u64 0)).setCell ⟨hb,34,none⟩ (.int .i64 0)):=
 h.turn ((Fr.set (S:=only hb) (p:=⟨hb,33,none⟩) rfl _).trans (Fr.set (S:=only hb) (p:=⟨hb,34,none⟩) rfl _)) ((h.hat.setAt 0).zIW 0)
theorem RS.fin (h:RS S w hb rb P M mo b0 b1 pc xs ha hn f2 k fk fa Y):(((Y.setCell ⟨w.heap.size,0,none⟩ (.int .i64 k)).setCell ⟨w.heap.size,1,none⟩ (.int .i64 fk)).setCell ⟨w.heap.size,2,none⟩ (.int .u64 fa)).heap[w.heap.size]?=some (.cells #[.int .i64 k,.int .i64 fk,.int .u64 fa] 33 (0,0)) ∧
  HAt (((Y.setCell ⟨w.heap.size,0,none⟩ (.int .i64 k)).setCell ⟨w.heap.size,1,none⟩ (.int .i64 fk)).setCell ⟨w.heap.size,2,none⟩ (.int .u64 fa)) hb rb pc xs ha hn ∧
  RP S (((Y.setCell ⟨w.heap.size,0,none⟩ (.int .i64 k)).setCell ⟨w.heap.size,1,none⟩ (.int .i64 fk)).setCell ⟨w.heap.size,2,none⟩ (.int .u64 fa)) rb P M mo b0 b1 ∧
  Fr (fun b=>S b∨b=hb) w (((Y.setCell ⟨w.heap.size,0,none⟩ (.int .i64 k)).setCell ⟨w.heap.size,1,none⟩ (.int .i64 fk)).setCell ⟨w.heap.size,2,none⟩ (.int .u64 fa)):=by
 have f:Fr (only w.heap.size) Y (((Y.setCell ⟨w.heap.size,0,none⟩ (.int .i64 k)).setCell ⟨w.heap.size,1,none⟩ (.int .i64 fk)).setCell ⟨w.heap.size,2,none⟩ (.int .u64 fa)):=((Fr.set (S:=only w.heap.size) (p:=⟨w.heap.size,0,none⟩) rfl _).trans (Fr.set (S:=only w.heap.size) (p:=⟨w.heap.size,1,none⟩) rfl _)).trans (Fr.set (S:=only w.heap.size) (p:=⟨w.heap.size,2,none⟩) rfl _);have hl:=h.lt;exact ⟨set3 _ _ _ h.res,h.hat.fr' f (fun e=>by have:hb=w.heap.size:=e;omega),(h.rp.kept f (fun b _ e e2=>by have:b=w.heap.size:=e2;omega)).among fun b _ e=>e.1,h.fr.after' f (fun q hq e=>by have:q=w.heap.size:=e;omega)⟩
theorem HAt.zero (h:HAt Y hb rb pc xs ha hn):∃ v,Y.cell? ⟨hb,1,none⟩=some v:=⟨_,h.x 0 (by decide)⟩
end
def RStepPost (S:Nat→Prop) (w:World) (hb rb:Nat) (P:List Pg) (M:Nat→Int) (mo b0 b1:Int) (s:St) (e:Ending) (w':World):Prop:=∃ k fk fa s' M',e=.returned (zAD k fk fa)∧zBT (regs P) M s k fk fa s' M'∧HAt w' hb rb s'.pc s'.xs s'.ha s'.hn∧RP S w' rb P M' mo b0 b1∧Fr (fun b=>S b∨b=hb) w w'
variable {b0 b1 mo:Int} {P:List Pg} {hb rb:Nat} {M:Nat→Int}
theorem rstep_any {s:St} (h:RP S w rb P M mo b0 b1) (hh:HAt w hb rb s.pc s.xs s.ha s.hn) (hS:¬ S hb) (hR:Regs s.xs) (hp:0≤s.pc∧s.pc<18446744073709551616):
  Calls prog 12 #[zB hb] w (RStepPost S w hb rb P M mo b0 b1 s):=by
 obtain ⟨p,hpp⟩:=zze hp.1;have hp64:p<2^64:=by omega
 obtain ⟨pc,xs,ha,hn⟩:=s;simp only at hpp hh hR hp;subst hpp;have hlt0:=hh.lt;have K0:=hid (Bl.new w (.cells #[.int .i64 0,.int .i64 0,.int .u64 0] 33));have R0:=hid (zzn w (.cells #[.int .i64 0,.int .i64 0,.int .u64 0] 33));have HP:=hid ((h.among (U:=fun b=>S b∧b<w.heap.size) fun b hb hS=>⟨hS,hb⟩).bl K0.out);have HH:=hid (hh.bl' K0.out);have hsz:(w.alloc (.cells #[.int .i64 0,.int .i64 0,.int .u64 0] 33)).heap.size=w.heap.size+1:=by simp
 have HR:=hid hR;have HPB:=hid hp;clear h hh hR hp;unfold zB at *;go_enter func12,ntmps12;go_upto_region 1 with (fail);generalize w.alloc (.cells #[.int .i64 0,.int .i64 0,.int .u64 0] 33)=V at *;have hltV:hb<V.heap.size:=by omega
 have HSZ:=hid hsz;clear hsz;have CS:=hid (fun X (k:Bl V X)=>rinst_any (HP.out.bl k) p hp64);have c0:=HH.out.pcs;have c4:=HH.out.rbc;unfold zB at CS c4;have HS:=hid (And.intro c4 c0);clear c0 c4 hp64
 go_region_held3 (fun w'=>w'.cell? ⟨hb,35,none⟩=some (.pointer (some ⟨rb,0,none⟩))∧w'.cell? ⟨hb,0,none⟩=some (.int .u64 (p:Int))) (first|(refine zKR (w8:=w4) ?_ hkk;((repeat' (first|with_reducible apply zi.rfl'|with_reducible apply zi.set_|with_reducible apply zi.alloc|with_reducible apply zi.drew))<;>omega))|(refine zKR (w8:=V) ?_ HS.out;((repeat' (first|with_reducible apply zi.rfl'|with_reducible apply zi.set_|with_reducible apply zi.alloc|with_reducible apply zi.drew))<;>omega))) (first|(go_at_call 31;with_reducible refine (CS.out _ (by (repeat' (first|exact Bl.refl _|with_reducible apply Bl.drew|with_reducible apply Bl.alloc)))).mono ?_;rintro e w4 ⟨⟨⟨a0,a1,a2,a3,a4,a5,a6⟩,k,fk,fa⟩,han,rfl,k4⟩;have K4:=hid ((show Bl V _ by (repeat' (first|exact Bl.refl _|with_reducible apply Bl.drew|with_reducible apply Bl.alloc))).trans k4);have hkk:=zKR (zi.bl K4.out) HS.out;have hsz4:=K4.out.size;(try (have FA:=hid (k4.at_ (zU ((Bl.new _ _).at_ (zzn V (.cells (Td.I7 0 0 0 0 0 0 0) 38)))));obtain ⟨p0,p1,p2,p3,p4,p5,p6⟩:=zI FA.out;have p7:=free_at FA.out;have hlA:=zG FA.out));(try (have FB:=hid (k4.at_ (zU ((Bl.new _ _).at_ (zzn V (.cells #[.int .i64 0,.int .i64 0,.int .u64 0] 33)))));obtain ⟨q0,q1,q2⟩:=zD FB.out;have q7:=free_at FB.out;have hlB:=zG FB.out));(try (have FB:=hid (k4.at_ (zU (zBB V (.cells (Td.I7 0 0 0 0 0 0 0) 38) (.cells #[.int .i64 0,.int .i64 0,.int .u64 0] 33))));obtain ⟨q0,q1,q2⟩:=zD FB.out;have q7:=free_at FB.out;have hlB:=zG FB.out));(try (have FA:=hid (k4.at_ (zU (zBB V (.cells #[.int .i64 0,.int .i64 0,.int .u64 0] 33) (.cells (Td.I7 0 0 0 0 0 0 0) 38))));obtain ⟨p0,p1,p2,p3,p4,p5,p6⟩:=zI FA.out;have p7:=free_at FA.out;have hlA:=zG FA.out));(try (have FA:=hid (k4.at_ (zU (zzn V (.cells (Td.I7 0 0 0 0 0 0 0) 38))));obtain ⟨p0,p1,p2,p3,p4,p5,p6⟩:=zI FA.out;have p7:=free_at FA.out;have hlA:=zG FA.out));(try (have FB:=hid (k4.at_ (zU (zzn V (.cells #[.int .i64 0,.int .i64 0,.int .u64 0] 33))));obtain ⟨q0,q1,q2⟩:=zD FB.out;have q7:=free_at FB.out;have hlB:=zG FB.out));clear k4;(try unfold Ans.v zJf);(try unfold Td.Ins.cells)))
 all_goals (
  clear hkk;first
  | (generalize hZ:(w4.alloc (.cells (Td.I7 a0 a1 a2 a3 a4 a5 a6) 38)).alloc (.cells #[.int .i64 k,.int .i64 fk,.int .u64 fa] 33)=Z;(fail_if_success clear hZ Z);have iz:IZ V ⟨⟨a0,a1,a2,a3,a4,a5,a6⟩,k,fk,fa⟩ (w4.heap.size) (w4.heap.size+1) Z:=(by rw [← hZ];exact iz1 K4.out);clear hZ;generalize w4.heap.size+1=f2 at iz ⊢;generalize w4.heap.size=f1 at iz ⊢)
  | (generalize hZ:(w4.alloc (.cells #[.int .i64 k,.int .i64 fk,.int .u64 fa] 33)).alloc (.cells (Td.I7 a0 a1 a2 a3 a4 a5 a6) 38)=Z;(fail_if_success clear hZ Z);have iz:IZ V ⟨⟨a0,a1,a2,a3,a4,a5,a6⟩,k,fk,fa⟩ (w4.heap.size+1) (w4.heap.size) Z:=(by rw [← hZ];exact iz2 K4.out);clear hZ;generalize w4.heap.size+1=f1 at iz ⊢;generalize w4.heap.size=f2 at iz ⊢)
  | (generalize hZ:(((((((w4.setCell ⟨V.heap.size,0,none⟩ (.int .i64 a0)).setCell ⟨V.heap.size,1,none⟩ (.int .i64 a1)).setCell ⟨V.heap.size,2,none⟩ (.int .i64 a2)).setCell ⟨V.heap.size,3,none⟩ (.int .i64 a3)).setCell ⟨V.heap.size,4,none⟩ (.int .i64 a4)).setCell ⟨V.heap.size,5,none⟩ (.int .i64 a5)).setCell ⟨V.heap.size,6,none⟩ (.int .i64 a6)).alloc (.cells #[.int .i64 k,.int .i64 fk,.int .u64 fa] 33)=Z;(fail_if_success clear hZ Z);have iz:IZ V ⟨⟨a0,a1,a2,a3,a4,a5,a6⟩,k,fk,fa⟩ (V.heap.size) (w4.heap.size) Z:=(by rw [← hZ];exact iz3 K4.out FA.out);clear hZ;generalize w4.heap.size=f2 at iz ⊢;generalize V.heap.size=f1 at iz ⊢)
  | (generalize hZ:((((((((((w4.setCell ⟨V.heap.size,0,none⟩ (.int .i64 a0)).setCell ⟨V.heap.size,1,none⟩ (.int .i64 a1)).setCell ⟨V.heap.size,2,none⟩ (.int .i64 a2)).setCell ⟨V.heap.size,3,none⟩ (.int .i64 a3)).setCell ⟨V.heap.size,4,none⟩ (.int .i64 a4)).setCell ⟨V.heap.size,5,none⟩ (.int .i64 a5)).setCell ⟨V.heap.size,6,none⟩ (.int .i64 a6)).setCell ⟨V.heap.size+1,0,none⟩ (.int .i64 k)).setCell ⟨V.heap.size+1,1,none⟩ (.int .i64 fk)).setCell ⟨V.heap.size+1,2,none⟩ (.int .u64 fa))=Z;(fail_if_success clear hZ Z);have iz:IZ V ⟨⟨a0,a1,a2,a3,a4,a5,a6⟩,k,fk,fa⟩ (V.heap.size) (V.heap.size+1) Z:=(by rw [← hZ];exact iz4 K4.out FA.out FB.out);clear hZ;generalize V.heap.size+1=f2 at iz ⊢;generalize V.heap.size=f1 at iz ⊢)
  | (generalize hZ:(((w4.setCell ⟨V.heap.size,0,none⟩ (.int .i64 k)).setCell ⟨V.heap.size,1,none⟩ (.int .i64 fk)).setCell ⟨V.heap.size,2,none⟩ (.int .u64 fa)).alloc (.cells (Td.I7 a0 a1 a2 a3 a4 a5 a6) 38)=Z;(fail_if_success clear hZ Z);have iz:IZ V ⟨⟨a0,a1,a2,a3,a4,a5,a6⟩,k,fk,fa⟩ (w4.heap.size) (V.heap.size) Z:=(by rw [← hZ];exact iz5 K4.out FB.out);clear hZ;generalize V.heap.size=f2 at iz ⊢;generalize w4.heap.size=f1 at iz ⊢)
  | (generalize hZ:((((((((((w4.setCell ⟨V.heap.size+1,0,none⟩ (.int .i64 a0)).setCell ⟨V.heap.size+1,1,none⟩ (.int .i64 a1)).setCell ⟨V.heap.size+1,2,none⟩ (.int .i64 a2)).setCell ⟨V.heap.size+1,3,none⟩ (.int .i64 a3)).setCell ⟨V.heap.size+1,4,none⟩ (.int .i64 a4)).setCell ⟨V.heap.size+1,5,none⟩ (.int .i64 a5)).setCell ⟨V.heap.size+1,6,none⟩ (.int .i64 a6)).setCell ⟨V.heap.size,0,none⟩ (.int .i64 k)).setCell ⟨V.heap.size,1,none⟩ (.int .i64 fk)).setCell ⟨V.heap.size,2,none⟩ (.int .u64 fa))=Z;(fail_if_success clear hZ Z);have iz:IZ V ⟨⟨a0,a1,a2,a3,a4,a5,a6⟩,k,fk,fa⟩ (V.heap.size+1) (V.heap.size) Z:=(by rw [← hZ];exact iz6 K4.out FA.out FB.out);clear hZ;generalize V.heap.size+1=f1 at iz ⊢;generalize V.heap.size=f2 at iz ⊢)
  have IZ_:=hid iz;clear iz hsz4 K4;(try clear p0 p1 p2 p3 p4 p5 p6 p7 FA hlA)
  (try clear q0 q1 q2 q7 FB hlB)
  have HAN:=hid han;clear han CS HS;have G1:Hid (w.heap.size<f2):=hid (by have:=IZ_.out.ge2;have:=HSZ.out;omega);have hst:=IZ_.out.stp;have hbx:=IZ_.out.box;simp only at hst hbx;obtain ⟨e0,e1,e2⟩:=zD hst;by_cases hk:k=0
  ·subst hk;obtain ⟨c0,c1,c2,c3,c4,c5,c6⟩:=zI hbx;have hok:=HAN.out.ok;have cd:=rdo_any (s:=⟨(p:Int),xs,ha,hn⟩) (HP.out.bl IZ_.out.bl) (HH.out.bl' IZ_.out.bl) (fun e=>hS e.1) HR.out HPB.out ⟨a0,a1,a2,a3,a4,a5,a6⟩ hok.1 hok.2.1 hok.2.2;have CD:=hid cd;clear cd hok;unfold zB Td.Ins.cells at CD;go_wp2_with fail;with_reducible refine CD.out.mono ?_
   intro e w5 hpo;unfold zIh at hpo;obtain ⟨k5,fk5,fa5,s',M',ys,a',h',rfl,hdi,hat5,hyl,hys,hkk5,hrp5,f5⟩:=hpo;have g2:=f5.at_ hst (fun e=>by
    rcases e with e|e
    ·have:=e.2;have:=G1.out;omega
    ·have:=G1.out;omega)
   have r5:=f5.at_ (IZ_.out.bl.at_ R0.out) (fun e=>by
    rcases e with e|e
    ·have:=e.2;omega
    ·omega)
   have fr5:=(Fr.zP (S:=fun b=>S b∨b=hb) (K0.out.trans IZ_.out.bl)).trans (f5.mono fun b _ e=>by
    rcases e with e|e
    ·exact .inl e.1
    ·exact .inr e)
   clear c0 c1 c2 c3 c4 c5 c6 e0 e1 e2 CD hst hbx f5;obtain ⟨e0,e1,e2⟩:=zD g2;have z2:=free_at g2;unfold zAD;go_upto_region 4 with (fail);have f6:Fr (only f2) w5 (((w5.setCell ⟨f2,0,none⟩ (.int .i64 k5)).setCell ⟨f2,1,none⟩ (.int .i64 fk5)).setCell ⟨f2,2,none⟩ (.int .u64 fa5)):=((Fr.set (S:=only f2) (p:=⟨f2,0,none⟩) rfl _).trans (Fr.set (S:=only f2) (p:=⟨f2,1,none⟩) rfl _)).trans (Fr.set (S:=only f2) (p:=⟨f2,2,none⟩) rfl _);have RS0:=hid (RS.mk (k:=k5) (fk:=fk5) (fa:=fa5) (hat5.fr' f6 (fun e=>by have e3:hb=f2:=e;have:=G1.out;omega)) (set3 (.int .i64 k5) (.int .i64 fk5) (.int .u64 fa5) g2) (f6.at_ r5 (fun e=>by have e3:w.heap.size=f2:=e;have:=G1.out;omega)) (hrp5.kept f6 (fun b _ e e2=>by have e3:b=f2:=e2;have:=e.2;have:=G1.out;omega)) (fr5.after' f6 (fun q hq e=>by have e3:q=f2:=e;have:=G1.out;omega)) hlt0 G1.out hS);clear e0 e1 e2 z2 g2 r5 fr5 f6 hat5 hrp5;generalize ((w5.setCell ⟨f2,0,none⟩ (.int .i64 k5)).setCell ⟨f2,1,none⟩ (.int .i64 fk5)).setCell ⟨f2,2,none⟩ (.int .u64 fa5)=X at *;obtain ⟨e0,e1,e2⟩:=zD RS0.out.stp;have HDI:=hid hdi;clear hdi;have HYS:=hid hys;clear hys;have HKK:=hid hkk5;clear hkk5;by_cases hk5:k5=0
   ·subst hk5;obtain ⟨v0,x0⟩:=RS0.out.hat.zero;have zh:=RS0.out.hat.frozen 1;go_upto_region 8 with (fail);have RS1:=hid RS0.out.x0;clear x0 zh e0 e1 e2 RS0;generalize X.setCell ⟨hb,1,none⟩ (.int .u64 0)=X1 at *;obtain ⟨e0,e1,e2⟩:=zD RS1.out.stp;obtain ⟨r0,r1,r2⟩:=zD RS1.out.res;have z1:=free_at RS1.out.res;go_wp2_with fail;obtain ⟨n1,n2,n3,n4⟩:=RS1.out.fin;refine zzb (Td.zAk rfl _ _ w.heap.size rfl n1 rfl) rfl ?_;obtain ⟨rfl,rfl⟩:=HKK.out (by first|rfl|trivial);rw [HYS.out] at n2;exact ⟨0,fk5,fa5,s',M',rfl,zBT.go _ _ _ _ _ _ HAN.out rfl HDI.out,n2,n3,n4⟩
   ·have hk':=nin hk5;obtain ⟨rfl,rfl⟩:=HDI.out.stop hk5;obtain ⟨v0,x0⟩:=RS0.out.rest.hat.zero;obtain ⟨t0,t1,_⟩:=RS0.out.hat.cells;have zh:=RS0.out.hat.frozen;go_upto_region 7 with (fail);have RS1:=hid RS0.out.rest;clear t0 t1 zh e0 e1 e2 RS0;generalize (X.setCell ⟨hb,33,none⟩ (.int .u64 0)).setCell ⟨hb,34,none⟩ (.int .i64 0)=X1 at *;have zh:=RS1.out.hat.frozen 1;go_upto_region 8 with (fail);have RS2:=hid RS1.out.x0;clear x0 zh RS1;generalize X1.setCell ⟨hb,1,none⟩ (.int .u64 0)=X2 at *;obtain ⟨e0,e1,e2⟩:=zD RS2.out.stp;obtain ⟨r0,r1,r2⟩:=zD RS2.out.res;have z1:=free_at RS2.out.res;go_wp2_with fail;obtain ⟨n1,n2,n3,n4⟩:=RS2.out.fin;refine zzb (Td.zAk rfl _ _ w.heap.size rfl n1 rfl) rfl ?_;rw [HYS.out] at n2;exact ⟨k5,fk5,fa5,_,_,rfl,zBT.go _ _ _ _ _ _ HAN.out rfl HDI.out,n2,n3,n4⟩
  ·have hk':=nin hk;have RS0:Hid (RS S w hb rb P M mo b0 b1 (p:Int) xs ha hn f2 k fk fa Z):=hid ⟨HH.out.bl' IZ_.out.bl,hst,IZ_.out.bl.at_ R0.out,HP.out.bl IZ_.out.bl,Fr.zP (K0.out.trans IZ_.out.bl),hlt0,G1.out,hS⟩;clear hbx;obtain ⟨v0,x0⟩:=RS0.out.rest.hat.zero;obtain ⟨t0,t1,_⟩:=RS0.out.hat.cells;have zh:=RS0.out.hat.frozen;go_upto_region 7 with (fail);have RS1:=hid RS0.out.rest;clear t0 t1 zh e0 e1 e2 RS0 hst IZ_ HH HP;generalize (Z.setCell ⟨hb,33,none⟩ (.int .u64 0)).setCell ⟨hb,34,none⟩ (.int .i64 0)=X1 at *;have zh:=RS1.out.hat.frozen 1;go_upto_region 8 with (fail);have RS2:=hid RS1.out.x0;clear x0 zh RS1;generalize X1.setCell ⟨hb,1,none⟩ (.int .u64 0)=X2 at *;obtain ⟨e0,e1,e2⟩:=zD RS2.out.stp;obtain ⟨r0,r1,r2⟩:=zD RS2.out.res;have z1:=free_at RS2.out.res;go_wp2_with fail;obtain ⟨n1,n2,n3,n4⟩:=RS2.out.fin;refine zzb (Td.zAk rfl _ _ w.heap.size rfl n1 rfl) rfl ?_;rw [set00 HR.out] at n2;exact ⟨k,fk,fa,St.rest ⟨(p:Int),xs,ha,hn⟩,M,rfl,zBT.bad (s:=⟨(p:Int),xs,ha,hn⟩) ⟨⟨a0,a1,a2,a3,a4,a5,a6⟩,k,fk,fa⟩ HAN.out hk,n2,n3,n4⟩)
end Go.Proofs.YtlhpodholnfppaaGreatDoor
namespace Go.Proofs.YtlhpodholnfppaaGreatDoor
open Go.Proofs.Tryz
open Go.ChangeShapes Go.WideShapes Go.ChangeAt Go.RowKit
theorem size29 (W:World):(sizeOf 29).run prog W=.ok 1 W:=by kernel_rfl
theorem x_eql (d:Nat) (xs:List Int) (hl:xs.length=32) (W:World):(Op.equalIn (d+2) 43 (.agg (xs.map (Value.int .u64)).toArray) (.agg (xs.map (Value.int .u64)).toArray)).run prog W=.ok true W:=by
 rw [Op.equalIn];simp only [Sem.run_bind,run_underlying underlying43,Result.andThen_ok,size29,Std.Legacy.Range.forIn_eq_forIn_range',Std.Legacy.Range.size,Nat.sub_zero,Nat.add_sub_cancel,Nat.div_one];have hr:∀ i∈List.range' 0 32 1,i<32:=fun i hi=>by simpa using (List.mem_range'_1.1 hi).2
 generalize List.range' 0 32 1=l at hr ⊢
 induction l with
 | nil=>simp
 | cons i l ih =>
  have hi:i<32:=hr i (by simp);have px:(Go.part 29 (xs.map (Value.int .u64)).toArray (i*1)).run prog W=.ok (.int .u64 (xs.getD i 0)) W:=by
   simp [Go.part,isAgg,run_underlying underlying29,List.getD,zzg (show i<xs.length by omega)]
  have pe:(Op.equalIn (d+1) 29 (.int .u64 (xs.getD i 0)) (.int .u64 (xs.getD i 0))).run prog W=.ok true W:=by
   rw [run_equalIn_int W d 29 .u64 .u64 _ _ underlying29];simp
  simp only [List.forIn_cons,Sem.run_bind,px,pe,Result.andThen_ok];simp only [Bool.not_true,Bool.false_eq_true,if_false,Sem.run_pure,Result.andThen_ok];exact ih fun j hj=>hr j (by simp [hj])
theorem zGH:Program.cellsOf prog 3=1:=by kernel_rfl
end Go.Proofs.YtlhpodholnfppaaGreatDoor
namespace Go.Proofs.YtlhpodholnfppaaGreatDoor
open Go.RowKit
theorem st_new (w:World) (pc:Int) (xs:List Int) (ha hn:Int) (hl:xs.length=32):StAt (w.alloc (.cells (stV pc xs ha hn).toArray 47)) w.heap.size pc xs ha hn:=⟨zzn w _,hl⟩
section
variable {P:Program} (w:World) {ops:Array Oper} {rest:List Oper} {o:Oper} {a:Act} {Q:Exit→Act→World→Prop}
end
end Go.Proofs.YtlhpodholnfppaaGreatDoor
namespace Go.Proofs.YtlhpodholnfppaaGreatDoor
open Go.ChangeShapes Go.WideShapes Go.ChangeAt Go.RowKit Go.Deep
variable {B base cb fuel hb n rc rl sb:Nat} {M st:Nat→Int} {K:Nat→Prop} {w:World}
theorem Solo.lt {on:Bool} {s:St} (h:Solo K w hb sb cb B n on s M st):hb<w.heap.size∧cb<w.heap.size∧B<w.heap.size∧hb≠B∧hb≠cb:=by
 obtain ⟨T,h1,_⟩:=h.ex;exact ⟨h1.ht.lt,h1.base.cl,h1.base.Bl_,h1.base.bB,h1.base.bc⟩
theorem Solo.tabs {on:Bool} {s:St} (h:Solo K w hb sb cb B n on s M st):Td.zBk w:=by
 obtain ⟨T,h1,_⟩:=h.ex;exact h1.base.tabs
section
variable {P:Program} {ops:Array Oper} {S:World→Prop} {o:Oper} {a:Act}
end
theorem zHx {H:Type} {enc:TypeId × Value→H} {spare:Nat→Bool} {held:Bool} {ra:Option Addr} {x:DataW H × List MemPlace} (h:DataW.trod enc Tryz.prog w base spare held fuel 23 [.slice ra rl rc]=some x):
  ∃ rs:Nat→Int,zEN w ra rl rs∧rl≤9223372036854775807∧∀ j,j<rl→0≤rs j∧rs j<18446744073709551616:=by
 rcases open_slice Tryz.underlying23 h with ⟨h1,_⟩|⟨ad,l,c,m,n,D,Pl,h1,h2,h3,h4,h5,h6,h7⟩
 ·injection h1 with h1;injection h1 with h1 h8 h9;subst h1 h8 h9;exact ⟨fun _=>0,fun h0=>absurd h0 (by omega),by omega,fun j hj=>absurd hj (by omega)⟩
 ·injection h1 with h1;injection h1 with h1 h8 h9;subst h1 h8 h9;have hc5:Tryz.prog.cellsOf 29=1:=by kernel_rfl
  have hm:rl≤m:=by rw [h5];split<;>omega
  have key:∀ k,k<rl→∃ y:Int,w.cell? (ad.add k)=some (.int .u64 y)∧0≤y∧y<18446744073709551616:=fun k hk=>by
   obtain ⟨cs,hcs,hts⟩:=h7 k (by omega);rw [hc5,Nat.mul_one] at hcs;obtain ⟨hlen,_,hat⟩:=World.cells?_some hcs
   match cs,hlen with
   | [u],_ =>
    obtain ⟨y,e0,hw⟩:=DataW.trod_int Tryz.underlying29 hts;cases e0;have h8:=hat 0 (by omega);exact ⟨y,by simpa [show (ad.add k).add 0=ad.add k from rfl] using h8,by have:=u64_wf hw.2;omega⟩
  have hch:∃ f:Nat→Int,∀ k,k<rl→w.cell? (ad.add k)=some (.int .u64 (f k))∧0≤f k∧f k<18446744073709551616:=by
   refine ⟨fun k=>if hk:k<rl then Classical.choose (key k hk) else 0,fun k hk=>?_⟩;simp only [dif_pos hk];exact Classical.choose_spec (key k hk)
  obtain ⟨f,hf⟩:=hch;refine ⟨f,fun h0=>?_,by simp only [maxLen] at h4;omega,fun j hj=>(hf j hj).2⟩;have h1:=block_lt_of_cell (hf 0 h0).1;rw [add_block] at h1;obtain ⟨b,off,spot⟩:=ad;have hspot:spot=none:=by simpa [Addr.add] using World.cell?_spot (hf 0 h0).1
  subst hspot;exact ⟨b,off,rfl,h1,fun k hk=>by rw [← Go.WideShapes.add_plain];exact (hf k hk).1⟩
end Go.Proofs.YtlhpodholnfppaaGreatDoor
namespace Go.Proofs.YtlhpodholnfppaaGreatDoor
open Go.RowKit
variable {B cb hb n rb sb:Nat} {M st:Nat→Int} {K U:Nat→Prop} {w w' w0:World}
theorem Solo.zID {on:Bool} {s:St} (h:Solo K w hb sb cb B n on s M st) (k:Fr U w w') (hU:∀ b,b<w.heap.size→U b→K b∧b≠hb∧b≠cb∧b≠B∧21≤b):∃ K',Solo K' w' hb sb cb B n on s M st∧(∀ b,K b→K' b)∧∀ b,w.heap.size≤b→b<w'.heap.size→K' b:=
 ⟨_,h.fr k hU,fun b hb=>.inl hb,fun b h1 h2=>.inr ⟨h1,h2⟩⟩
structure zIg (J:Nat→Prop) (w:World) (kb rb:Nat) (s:St) (M:Nat→Int):Prop where
 ex:∃ T P,RP T w rb P M 20 0 0∧regs P=l3∧(∀ b,J b→¬ T b)∧∀ b,w.heap.size≤b→T b
 ha:HAt w kb rb s.pc s.xs s.ha s.hn
 kj:J kb
 regs:Regs s.xs
 pcb:0≤s.pc∧s.pc<18446744073709551616
section
variable {J K C:Nat→Prop} {w w':World} {hb kb sb rb cb B n:Nat} {on:Bool} {s s2:St} {M st M2:Nat→Int}
theorem zIg.zID (h:zIg J w kb rb s M) (k:Fr U w w') (hU:∀ b,b<w.heap.size→U b→J b∧b≠kb):∃ J',zIg J' w' kb rb s M∧(∀ b,J b→J' b)∧∀ b,w.heap.size≤b→b<w'.heap.size→J' b:=by
 obtain ⟨T,P,h1,h2,h3,h4⟩:=h.ex;have hs:=k.size;refine ⟨fun b=>J b∨(w.heap.size≤b∧b<w'.heap.size),⟨⟨fun b=>T b∧(b<w.heap.size∨w'.heap.size≤b),P,(h1.among fun b hb e=>⟨e,.inl hb⟩).kept k (fun b hb e e2=>h3 b (hU b hb e2).1 e.1),h2,fun b hb e=>?_,fun b hb=>⟨h4 b (by omega),.inr hb⟩⟩,h.ha.fr' k (fun e=>(hU _ h.ha.lt e).2 rfl),.inl h.kj,h.regs,h.pcb⟩,fun b hb=>.inl hb,fun b g1 g2=>.inr ⟨g1,g2⟩⟩;rcases hb with hb|hb
 ·exact h3 b hb e.1
 ·rcases e.2 with h|h<;>omega
theorem zIg.step (h:zIg J w kb rb s M) :
  Calls Tryz.prog 12 #[zB kb] w fun e w'=>∃ k fk fa s' M',zBT l3 M s k fk fa s' M'∧e=.returned (zAD k fk fa)∧zIg J w' kb rb s' M'∧Fr (fun x=>¬ J x∨x=kb) w w':=by
 obtain ⟨T,P,h1,h2,h3,h4⟩:=h.ex;refine (rstep_any h1 h.ha (h3 _ h.kj) h.regs h.pcb).mono ?_;rintro e w' ⟨k,fk,fa,s',M',rfl,g1,g2,g3,g4⟩;rw [h2] at g1;have hk:=g1.keep h1.by_ h.regs h.pcb;exact ⟨k,fk,fa,s',M',g1,rfl,⟨⟨T,P,g3,h2,h3,fun b hb=>h4 b (Nat.le_trans g4.size hb)⟩,g2,h.kj,hk.1,hk.2⟩,g4.mono fun x _ e=>by
  rcases e with e|e
  ·exact .inl (fun hk=>h3 x hk e)
  ·exact .inr e⟩
structure Duo (C:Nat→Prop) (w:World) (hb kb sb rb cb B n:Nat) (on:Bool) (s:St) (M st:Nat→Int) (s2:St) (M2:Nat→Int):Prop where
 ex:∃ K J,Solo K w hb sb cb B n on s M st∧zIg J w kb rb s2 M2∧(∀ x,x<w.heap.size→K x∨J x)∧(∀ x,C x→K x∧J x)∧(∀ x,x<21→K x∧J x)∧J hb∧J cb∧J B∧K kb
 ne:kb≠hb∧kb≠cb∧kb≠B
 cn:∀ x,C x→x≠hb∧x≠cb∧x≠B∧x≠kb∧21≤x
 lo:21≤hb∧21≤kb∧21≤B
theorem Duo.less {C':Nat→Prop} (h:Duo C w hb kb sb rb cb B n on s M st s2 M2) (hC:∀ x,C' x→C x):Duo C' w hb kb sb rb cb B n on s M st s2 M2:=by
 obtain ⟨K,J,h1,h2,h3,h4,h5⟩:=h.ex;exact ⟨⟨K,J,h1,h2,h3,fun x hx=>h4 x (hC x hx),h5⟩,h.ne,fun x hx=>h.cn x (hC x hx),h.lo⟩
theorem Duo.fr (h:Duo C w hb kb sb rb cb B n on s M st s2 M2) (k:Fr U w w') (hU:∀ x,x<w.heap.size→U x→C x):Duo (fun x=>C x∨(w.heap.size≤x∧x<w'.heap.size)) w' hb kb sb rb cb B n on s M st s2 M2:=by
 obtain ⟨K,J,h1,h2,h3,h4,h5,h6,h7,h8,h9⟩:=h.ex;have hl:=Solo.lt h1;have hl2:=h2.ha.lt;have ht:20<w.heap.size:=(Solo.tabs h1).lt (by decide);obtain ⟨K',a1,a2,a3⟩:=Solo.zID h1 k (fun b hb_ e=>by
  have hc:=hU b hb_ e;obtain ⟨q1,q2,q3,q4,q5⟩:=h.cn b hc;exact ⟨(h4 b hc).1,q1,q2,q3,q5⟩)
 obtain ⟨J',b1,b2,b3⟩:=h2.zID k (fun b hb_ e=>by
  have hc:=hU b hb_ e;exact ⟨(h4 b hc).2,(h.cn b hc).2.2.2.1⟩)
 refine ⟨⟨K',J',a1,b1,fun x hx=>?_,fun x hx=>?_,fun x hx=>⟨a2 x (h5 x hx).1,b2 x (h5 x hx).2⟩,b2 _ h6,b2 _ h7,b2 _ h8,a2 _ h9⟩,h.ne,fun x hx=>?_,h.lo⟩
 ·by_cases hw:x<w.heap.size
  ·exact (h3 x hw).imp (a2 x) (b2 x)
  ·exact .inl (a3 x (by omega) hx)
 ·rcases hx with hx|⟨g1,g2⟩
  ·exact ⟨a2 x (h4 x hx).1,b2 x (h4 x hx).2⟩
  ·exact ⟨a3 x g1 g2,b3 x g1 g2⟩
 ·rcases hx with hx|⟨g1,g2⟩
  ·exact h.cn x hx
  ·exact ⟨by omega,by omega,by omega,by omega,by omega⟩
theorem Duo.bl (h:Duo C w hb kb sb rb cb B n on s M st s2 M2) (k:Bl w w'):Duo (fun x=>C x∨(w.heap.size≤x∧x<w'.heap.size)) w' hb kb sb rb cb B n on s M st s2 M2:=h.fr (U:=fun _=>False) (Fr.zP k) (fun x _ e=>e.elim)
theorem Duo.hstep (h:Duo C w hb kb sb rb cb B n on s M st s2 M2) (hn:n<80000000) :
  Calls Tryz.prog 11 #[zB hb] w fun e w'=>∃ k fk fa s' M' st',zBT l3 M s k fk fa s' M'∧e=.returned (zAD k fk fa)∧Duo C w' hb kb sb rb cb B (n+9) on s' M' st' s2 M2∧Fr (fun x=>¬ C x∧21≤x) w w':=by
 obtain ⟨K,J,h1,h2,h3,h4,h5,h6,h7,h8,h9⟩:=h.ex;have hl:=Solo.lt h1;have hl2:=h2.ha.lt;have hne:=h.ne;refine (Solo.step h1 hn).mono ?_;rintro e w' ⟨k,fk,fa,s',M',st',g1,rfl,g2,g3⟩;have hs:=g3.size;have hU:∀ x,x<w.heap.size→(¬ K x∨x=hb∨x=B)→J x∧x≠kb:=fun x hx e=>by
  rcases e with e|rfl|rfl
  ·exact ⟨(h3 x hx).resolve_left e,fun q=>e (q▸h9)⟩
  ·exact ⟨h6,fun q=>hne.1 q.symm⟩
  ·exact ⟨h8,fun q=>hne.2.2 q.symm⟩
 obtain ⟨J',b1,b2,b3⟩:=h2.zID g3 hU;refine ⟨k,fk,fa,s',M',st',g1,rfl,⟨⟨K,J',g2,b1,fun x hx=>?_,fun x hx=>⟨(h4 x hx).1,b2 x (h4 x hx).2⟩,fun x hx=>⟨(h5 x hx).1,b2 x (h5 x hx).2⟩,b2 _ h6,b2 _ h7,b2 _ h8,h9⟩,h.ne,h.cn,h.lo⟩,g3.mono fun x hx e=>⟨fun hc=>?_,?_⟩⟩
 ·by_cases hw:x<w.heap.size
  ·exact (h3 x hw).imp id (b2 x)
  ·exact .inr (b3 x (by omega) hx)
 ·obtain ⟨q1,q2,q3,q4,q5⟩:=h.cn x hc;rcases e with e|e|e
  ·exact e (h4 x hc).1
  ·exact q1 e
  ·exact q3 e
 ·have hlo:=h.lo;rcases e with e|e|e
  ·exact Classical.byContradiction fun q=>e (h5 x (by omega)).1
  ·omega
  ·omega
theorem Duo.rstep (h:Duo C w hb kb sb rb cb B n on s M st s2 M2) :
  Calls Tryz.prog 12 #[zB kb] w fun e w'=>∃ k fk fa s' M',zBT l3 M2 s2 k fk fa s' M'∧e=.returned (zAD k fk fa)∧Duo C w' hb kb sb rb cb B n on s M st s' M'∧Fr (fun x=>¬ C x∧21≤x) w w':=by
 obtain ⟨K,J,h1,h2,h3,h4,h5,h6,h7,h8,h9⟩:=h.ex;have hl:=Solo.lt h1;have hl2:=h2.ha.lt;have hne:=h.ne;have hlo:=h.lo;refine h2.step.mono ?_;rintro e w' ⟨k,fk,fa,s',M',g1,rfl,g2,g3⟩;have hs:=g3.size;have hU:∀ x,x<w.heap.size→(¬ J x∨x=kb)→K x∧x≠hb∧x≠cb∧x≠B∧21≤x:=fun x hx e=>by
  rcases e with e|rfl
  ·exact ⟨(h3 x hx).resolve_right e,fun q=>e (q▸h6),fun q=>e (q▸h7),fun q=>e (q▸h8),Classical.byContradiction fun q=>e (h5 x (by omega)).2⟩
  ·exact ⟨h9,hne.1,hne.2.1,hne.2.2,by omega⟩
 obtain ⟨K',a1,a2,a3⟩:=Solo.zID h1 g3 hU;refine ⟨k,fk,fa,s',M',g1,rfl,⟨⟨K',J,a1,g2,fun x hx=>?_,fun x hx=>⟨a2 x (h4 x hx).1,(h4 x hx).2⟩,fun x hx=>⟨a2 x (h5 x hx).1,(h5 x hx).2⟩,h6,h7,h8,a2 _ h9⟩,h.ne,h.cn,h.lo⟩,g3.mono fun x hx e=>⟨fun hc=>?_,(hU x hx e).2.2.2.2⟩⟩
 ·by_cases hw:x<w.heap.size
  ·exact (h3 x hw).imp (a2 x) id
  ·exact .inl (a3 x (by omega) hx)
 ·rcases e with e|e
  ·exact e (h4 x hc).2
  ·exact (h.cn x hc).2.2.2.1 e
theorem Duo.tabs (h:Duo C w hb kb sb rb cb B n on s M st s2 M2):Td.zBk w:=by
 obtain ⟨K,J,h1,h2⟩:=h.ex;exact Solo.tabs h1
theorem Duo.ht (h:Duo C w hb kb sb rb cb B n on s M st s2 M2):HtAt w hb s.pc s.xs s.ha s.hn sb cb:=by
 obtain ⟨K,J,h1,h2⟩:=h.ex;exact Solo.ht h1
theorem Duo.ha (h:Duo C w hb kb sb rb cb B n on s M st s2 M2):HAt w kb rb s2.pc s2.xs s2.ha s2.hn:=by
 obtain ⟨K,J,h1,h2,_⟩:=h.ex;exact h2.ha
theorem Duo.regs (h:Duo C w hb kb sb rb cb B n on s M st s2 M2):Regs s.xs:=by
 obtain ⟨K,J,h1,h2⟩:=h.ex;exact Solo.regs h1
theorem Duo.ms (h:Duo C w hb kb sb rb cb B n on s M st s2 M2):∃ T,MS T w sb n l3 M st 20 0 0:=by
 obtain ⟨K,J,⟨T,h1,h2⟩,h3⟩:=h.ex;exact ⟨T,h1.base.ms⟩
theorem Duo.rp (h:Duo C w hb kb sb rb cb B n on s M st s2 M2):∃ T P,RP T w rb P M2 20 0 0:=by
 obtain ⟨K,J,h1,⟨⟨T,P,h2,_⟩,_⟩,h3⟩:=h.ex;exact ⟨T,P,h2⟩
end
theorem Made.duo {kb:Nat} {on:Bool} {rl:List Int} (h:Made w0 w hb kb sb rb cb B n on rl M st K) (hr:Regs rl) (hT:Td.zBk w0):Duo (fun x=>21≤x∧x<w0.heap.size) w hb kb sb rb cb B n on ⟨65536,rl,0,0⟩ M st ⟨65536,rl,0,0⟩ M:=by
 obtain ⟨T1,T2,P,h1,h2,h3,h4,h5,h6⟩:=h.two.ex;have h21:20<w0.heap.size:=hT.lt (by decide);obtain ⟨a1,a2,a3,a4⟩:=h.lo;obtain ⟨n1,n2,n3,n4,n5⟩:=h.ne;have hp:(0:Int)≤65536∧(65536:Int)<18446744073709551616:=by decide
 refine ⟨⟨fun b=>¬ T1 b,fun b=>¬ T2 b,⟨T1,⟨h.ht,hr,hp,⟨h1,h.cch,hT.bl h.bl,l3_rs.al,(h5 _ h.kh).1,(h5 _ h.kc).1,(h5 _ h.kB).1,n2,n3,h.lt.1,h.lt.2,by omega,by omega,fun g hg=>(h5 g (h.old g (by omega))).1⟩⟩,fun b hb=>hb,fun b hb=>(h6 b hb).1⟩,⟨⟨T2,P,h2,h3,fun b hb=>hb,fun b hb=>(h6 b hb).2⟩,h.ha,(h5 _ h.kk).2,hr,hp⟩,fun x hx=>?_,fun x hx=>h5 x (h.old x hx.2),fun x hx=>h5 x (h.old x (by omega)),(h5 _ h.kh).2,(h5 _ h.kc).2,(h5 _ h.kB).2,(h5 _ h.kk).1⟩,⟨n1.symm,n4,n5⟩,fun x hx=>⟨by omega,by omega,by omega,by omega,hx.1⟩,⟨by omega,by omega,by omega⟩⟩;by_cases e:T1 x
 ·exact .inr (h4 x hx e)
 ·exact .inl e
end Go.Proofs.YtlhpodholnfppaaGreatDoor
namespace Go.Proofs.YtlhpodholnfppaaGreatDoor
open Go.Proofs.Tryz
open Go.RowKit Go.BigFrame
variable {xs:List Int} {b cb g hb j k n rb sb:Nat}
theorem map_at {v:Value} (hv:(xs.map (Value.int .u64))[j]?=some v):j<xs.length∧v=.int .u64 (xs.getD j 0):=by
 have hj:j<xs.length:=by simpa using (zzi.1 hv).1
 refine ⟨hj,?_⟩;rw [List.getElem?_map,zzg hj] at hv;rw [zzd,zzg hj];exact (Option.some.inj hv).symm
theorem size43:(prog.info? 43).map (·.size)=some 32:=by kernel_rfl
variable {ba en hn mo:Int} {V w w':World}
theorem StAt.zKJ {pc ha:Int} (h:StAt w b pc xs ha hn):(Instr.loadAt 43 (.pointer (some ⟨b,1,none⟩))).run prog w=.ok (.agg (xs.map (Value.int .u64)).toArray) w:=
 run_loadAt_mid w b 1 _ _ _ (fun j v hv=>by
  obtain ⟨h1,rfl⟩:=map_at hv;exact h.x j (by have:=h.len;omega)) underlying43 rfl (by rw [List.length_map,h.len];exact size43)
theorem HAt.zKJ {pc at_ held:Int} (h:HAt w hb rb pc xs at_ held):(Instr.loadAt 43 (.pointer (some ⟨hb,1,none⟩))).run prog w=.ok (.agg (xs.map (Value.int .u64)).toArray) w:=
 run_loadAt_mid w hb 1 _ _ _ (fun j v hv=>by
  obtain ⟨h1,rfl⟩:=map_at hv
  have:=h.x j (by have:=h.len;omega)
  unfold rx at this
  rwa [Int.toNat_natCast] at this) underlying43 rfl (by rw [List.length_map,h.len];exact size43)
theorem xs_eql (hl:xs.length=32) (W:World):(Go.binOp .eql 43 (.agg (xs.map (Value.int .u64)).toArray) (.agg (xs.map (Value.int .u64)).toArray)).run prog W=.ok (.bool true) W:=by
 have hx:=x_eql 9998 xs hl W;generalize (xs.map (Value.int .u64)).toArray=v at hx ⊢;go_simp
 first|done|(rw [hx];simp [Result.andThen])
section
variable {P:Program} {C:World→Prop} {K:Act→Prop} {o:Oper} {a:Act}
theorem qLoad (x:Operand) (t:TypeId) (hop:o.op=Op.load t x) (vx v1:Value) (hx:a.eval x=vx) (h:∀ w,C w→(Instr.loadAt t vx).run P w=.ok v1 w) (hk:K (a.put o.dst v1)):o.quiet P a C K:=
 ⟨v1,fun w hw=>by unfold Oper.quietAt;simp [execOp,hop,hx,h w hw,Oper.quietUpon],hk⟩
theorem qEql (t tr:TypeId) (x y:Operand) (hop:o.op=Op.binOp .eql t x y tr) (vx vy:Value) (b:Bool) (hx:a.eval x=vx) (hy:a.eval y=vy) (hg:∀ w,(eqGuard .eql t x y vx vy).run P w=.ok () w) (hrun:∀ w,(Go.binOp .eql t vx vy).run P w=.ok (.bool b) w) (hk:K (a.put o.dst (.bool b))):o.quiet P a C K:=
 ⟨.bool b,fun w hw=>by unfold Oper.quietAt;simp [execOp,hop,hx,hy,hg w,hrun w,Result.andThen,Oper.quietUpon],hk⟩
end
theorem same_yes {kb:Nat} {pc ha:Int} (h:HtAt w hb pc xs ha hn sb cb) (g:HAt w kb rb pc xs ha hn):
  Calls prog 13 #[zB hb,zB kb] w fun e w'=>e=.returned (.bool true)∧Bl w w':=by
 have hl:=h.len;have ct:=zEb h;have HG:=hid g;clear g h;unfold zB at ct ⊢;go_enter func13,ntmps13;go_wp2_with fail;with_reducible refine ct.mono ?_
 rintro e w1 ⟨rfl,k1⟩;have hsn:=zCY w1 pc xs ha hn hl;go_upto_region 2 with (first|(refine wplS _ rfl (.tmp 5) (.tmp 7) 47 rfl _ _ rfl rfl hsn ?_)|fail);(try simp only [Act.put])
 have HS:=hid (And.intro (st_new w1 pc xs ha hn hl) (HG.out.bl' (k1.trans (Bl.new w1 (.cells (stV pc xs ha hn).toArray 47)))));have K1:=hid (k1.trans (Bl.new w1 (.cells (stV pc xs ha hn).toArray 47)));clear hsn ct k1 HG;generalize w1.alloc (.cells (stV pc xs ha hn).toArray 47)=W at *;generalize w1.heap.size=t5 at *;by_cases hz:hn=0
 ·subst hz;have q0:=HS.out.1.pc_;have q1:=HS.out.2.pcs;have q2:=HS.out.1.hold.1;have q3:=HS.out.1.hold.2;have q4:=HS.out.2.cells.1;have q5:=HS.out.2.cells.2.1;refine wp_region_quiet_lit (by kernel_rfl) (by kernel_rfl) ?_
  repeat (first
   | go_big_quiet_step (fail)
   | (go_big_quiet_want;(first
     | refine qLoad (.tmp 16) 43 rfl _ _ rfl (fun w' ⟨n,hn⟩=>by rw [hn];exact (HS.out.1.bl ((Bl.refl W).drewN n)).zKJ) ?_
     | refine qLoad (.tmp 20) 43 rfl _ _ rfl (fun w' ⟨n,hn⟩=>by rw [hn];exact (HS.out.2.bl' ((Bl.refl W).drewN n)).zKJ) ?_
     | refine qEql 43 43 (.tmp 17) (.tmp 21) rfl _ _ true rfl rfl (fun w'=>run_eqGuard_agg w' _ _ _ _ _ _ Tryz.eqGuardType43) (fun w'=>xs_eql hl w') ?_);simp only [Act.put,qa];go_big_quiet_on))
  refine wpQuiet_nil ?_;intro _ hw';obtain ⟨nq,hw''⟩:=hw';subst hw'';go_wp2_with fail;go_ret;exact ⟨rfl,K1.out.drewN _⟩
 ·have hz':(hn==0)=false:=by simp [hz]
  have q0:=HS.out.1.pc_;have q1:=HS.out.2.pcs;have q2:=HS.out.1.hold.1;have q3:=HS.out.1.hold.2;have q4:=HS.out.2.cells.1;have q5:=HS.out.2.cells.2.1;refine wp_region_quiet_lit (by kernel_rfl) (by kernel_rfl) ?_
  repeat (first
   | go_big_quiet_step (fail)
   | (go_big_quiet_want;(first
     | refine qLoad (.tmp 16) 43 rfl _ _ rfl (fun w' ⟨n,hn⟩=>by rw [hn];exact (HS.out.1.bl ((Bl.refl W).drewN n)).zKJ) ?_
     | refine qLoad (.tmp 20) 43 rfl _ _ rfl (fun w' ⟨n,hn⟩=>by rw [hn];exact (HS.out.2.bl' ((Bl.refl W).drewN n)).zKJ) ?_
     | refine qEql 43 43 (.tmp 17) (.tmp 21) rfl _ _ true rfl rfl (fun w'=>run_eqGuard_agg w' _ _ _ _ _ _ Tryz.eqGuardType43) (fun w'=>xs_eql hl w') ?_);simp only [Act.put,qa];go_big_quiet_on))
  refine wpQuiet_nil ?_;intro _ hw';obtain ⟨nq,hw''⟩:=hw';subst hw'';go_wp2_with fail;go_ret;exact ⟨rfl,K1.out.drewN _⟩
theorem drewSz (w:World):w.drew.heap.size=w.heap.size:=rfl
variable {v0 v1 v2 v3:Value}
theorem keepA {kb:Nat} (h:w.cell? ⟨kb,35,none⟩=some v0∧w.cell? ⟨rb,0,none⟩=some v1∧w.cell? ⟨g,k*3,none⟩=some v2∧w.cell? ⟨g,k*3+2,none⟩=some v3∧Bl V w) (q:Bl w w'):
  w'.cell? ⟨kb,35,none⟩=some v0∧w'.cell? ⟨rb,0,none⟩=some v1∧w'.cell? ⟨g,k*3,none⟩=some v2∧w'.cell? ⟨g,k*3+2,none⟩=some v3∧Bl V w':=
 ⟨q.cell' h.1,q.cell' h.2.1,q.cell' h.2.2.1,q.cell' h.2.2.2.1,h.2.2.2.2.trans q⟩
variable {P:List Pg} {L:List Rg} {M st:Nat→Int} {S T:Nat→Prop}
theorem alike_yes {kb:Nat} {pc ha pc2 ha2 hn2:Int} {xs2:List Int} {mo2 ba2 en2:Int} (h:HtAt w hb pc xs ha hn sb cb) (g:HAt w kb rb pc2 xs2 ha2 hn2) (hm:MS T w sb n L M st mo ba en) (hr:RP S w rb P M mo2 ba2 en2):
  Calls prog 14 #[zB hb,zB kb] w fun e w'=>e=.returned (.bool true)∧Bl w w':=by
 have CSP:=hid (fun W (k:Bl w W)=>hspace_any (h.bl k));have CPK:=hid (fun W (k:Bl w W) (a:Nat) (ha:a<2^64)=>mpeek_any (hm.bl k) a 4096 ha (by omega) (by omega));have HK:=hid (fun W (k:Bl w W)=>(g.bl' k).rbc);have HP:=hid hr.pgs;have hle:P.length≤4096:=hr.few;have HB:=hid (fun W (k:Bl w W) x (hx:x∈P)=>zJs (k.at_ (hr.pages x hx).2));obtain ⟨A,cap,c0,_,hrow⟩:=hr.space.cells;have HROW:=hid hrow;clear hrow;have HC0:=hid c0;clear c0;clear h g hm hr;obtain ⟨m,hm⟩:∃ m,m=P.length:=⟨_,rfl⟩;rw [← hm] at HC0 HROW hle;have HM:=hid hm;clear hm;have hleI:(m:Int)≤4096:=by omega
 unfold zB at *;go_enter func14,ntmps14;go_wp2_with fail
 go_loopw [5] (fun i wr=>∃ k:Nat,k≤m∧i=.int .i64 k∧Bl w wr) (fun i _=>m - (intOf i).toNat)
 case atStart=>exact ⟨0,by omega,rfl,Bl.refl _⟩
 case round =>
  obtain ⟨k,hk,rfl,hbl⟩:=hrel;have KR:=hid hbl;clear hbl;have c4:=HK.out _ KR.out;have c5:=KR.out.cell' HC0.out;by_cases hlt:k<m
  ·have hltI:(k:Int)<(m:Int):=by omega
   have hltL:k<P.length:=by have:=HM.out;omega
   obtain ⟨x,hx⟩:∃ x,P[k]?=some x:=⟨P[k],zzg hltL⟩;have hxm:x∈P:=List.mem_of_getElem? hx;have hne:P≠[]:=by intro e;rw [e] at hltL;simp at hltL
   obtain ⟨g,cap',cur,hA,_,hnc,hg,_⟩:=HROW.out.form hne;have hA':A=some ⟨g,0,none⟩:=by injection hA
   subst hA';obtain ⟨d0,d1,d2⟩:=zAz HROW.out k x hx;have hno:=HP.out.2 x hxm;obtain ⟨no,hno2⟩:=zze hno.1;have hnob:no<67108864:=by omega
   have RB:=hid (fun W (k:Bl w W)=>(show zBD M x.no.toNat=zf M (no*4096) 4096 by rw [hno2];rfl)▸HB.out W k x hxm);have hS:wr.cell? ⟨kb,35,none⟩=some (.pointer (some ⟨rb,0,none⟩))∧wr.cell? ⟨rb,0,none⟩=some (.slice (some ⟨g,0,none⟩) m cap)∧wr.cell? ⟨g,k*3,none⟩=some (.int .u64 (no:Int))∧wr.cell? ⟨g,k*3+2,none⟩=some (.slice (some ⟨x.b,0,none⟩) 4096 4096)∧Bl w wr:=⟨c4,c5,KR.out.cell' (by rw [hno2] at d0;exact d0),KR.out.cell' d2,KR.out⟩;have CP2:Hid (∀ W,Bl w W→Calls prog 34 #[.pointer (some ⟨sb,0,none⟩),.int .u64 (IntKind.u64.wrap ((no:Int)*4096)),.int .i64 4096] W (zFO W M (no*4096) 4096)):=hid (fun W k=>by
    have:=CPK.out W k (no*4096) (by omega)
    rwa [show ((no*4096:Nat):Int)=IntKind.u64.wrap ((no:Int)*4096) by rw [zzu _ (by omega)];omega] at this)
   clear hA hnc hg hne hltL d0 d1 d2 hno hno2 CPK HB hxm hx;go_wp2_with fail;clear c4 c5
   go_region_held3 (fun w'=>w'.cell? ⟨kb,35,none⟩=some (.pointer (some ⟨rb,0,none⟩))∧w'.cell? ⟨rb,0,none⟩=some (.slice (some ⟨g,0,none⟩) m cap)∧w'.cell? ⟨g,k*3,none⟩=some (.int .u64 (no:Int))∧w'.cell? ⟨g,k*3+2,none⟩=some (.slice (some ⟨x.b,0,none⟩) 4096 4096)∧Bl w w') (first|assumption|exact hS|exact keepA hS ((Bl.refl wr).drewN 1)) (first
    | (go_at_call 20;with_reducible refine (CSP.out _ (by first|assumption|exact KR.out|exact KR.out.drew|exact KR.out.drewN 1|exact hkk.2.2.2.2)).mono ?_;rintro e w8 ⟨rfl,rfl⟩)
    | (go_at_call 34;with_reducible refine (CP2.out _ (by first|assumption|exact KR.out|exact KR.out.drew|exact KR.out.drewN 1)).mono ?_;intro e w9 hp;unfold zFO at hp;obtain ⟨he,hb9,k9⟩:=hp;subst he;(try rw [drewSz] at hb9);have rd9:=zJs hb9;have hkk:=keepA (by first|assumption|exact hS|exact keepA hS ((Bl.refl wr).drewN 1)) k9)
    | (go_at_call 33;with_reducible refine (sameB_any _ _ 4096 4096 4096 (zf M (no*4096) 4096) _ rd9 (RB.out _ hkk.2.2.2.2) (zT _ _ _) (by omega)).mono ?_;rintro e w12 ⟨rfl,m12,rfl⟩;have hkk3:=keepA hkk ((Bl.refl w9).drewN m12)))
   all_goals (
    (try go_wp2_with fail)
    refine ⟨⟨k+1,by omega,by go_num,hkk3.2.2.2.2⟩,?_⟩;simp only [intOf];omega)
  ·obtain rfl:k=m:=by omega
   go_wp2_with fail;go_ret;exact ⟨rfl,KR.out⟩
end Go.Proofs.YtlhpodholnfppaaGreatDoor
namespace Go.Proofs.YtlhpodholnfppaaGreatDoor
open Go.Proofs.Tryz
open Go.RowKit
variable {w:World}
theorem zJO {a b:World} {C:Nat→Prop} (h:Bl w a) (f:Fr (fun x=>¬ C x∧21≤x) a b) (hC:∀ x,21≤x→x<w.heap.size→C x):Bl w b:=zKc h f (fun q hq e=>e.1 (hC q e.2 hq))
section
variable {C:Nat→Prop} {w w':World} {hb kb sb rb cb B n:Nat} {on:Bool} {s s2:St} {M st M2:Nat→Int}
theorem Duo.same (h:Duo C w hb kb sb rb cb B n on s M st s M):Calls prog 13 #[zB hb,zB kb] w fun e w'=>e=.returned (.bool true)∧Bl w w':=same_yes h.ht h.ha
theorem Duo.alike (h:Duo C w hb kb sb rb cb B n on s M st s M):Calls prog 14 #[zB hb,zB kb] w fun e w'=>e=.returned (.bool true)∧Bl w w':=by
 obtain ⟨T,hm⟩:=h.ms;obtain ⟨T2,P,hr⟩:=h.rp;exact alike_yes h.ht h.ha hm hr
end
variable {xs:List Int} {rc rl:Nat} {rs:Nat→Int} {A R:Option Addr}
theorem steps_walk {l c:Nat} (w:World) (on:Bool) (hbi:BytesIn w A l c xs) (hri:zEN w R rl rs) (hrl:rl≤9223372036854775807) (hrb:∀ j,j<rl→0≤rs j∧rs j<18446744073709551616) (hT:Td.zBk w):
  Calls prog 3 #[.slice A l c,.slice R rl rc,.bool on] w fun e w'=>e=.returned (.bool true)∧Bl w w':=by
 have HT:=hid hT;clear hT;have HRB:=hid hrb;clear hrb;go_enter func3,ntmps3;by_cases hl:8000<l
 ·have hI:(8000:Int)<(l:Int):=by omega
  go_wp2_with fail;with_reducible refine (zCF w HT.out).mono ?_
  rintro e w1 ⟨rfl,k1⟩;go_wp2_with fail;go_ret;exact ⟨rfl,k1⟩
 ·have hI:(l:Int)≤8000:=by omega
  have cm:=zDA (rc:=rc) w hbi (by omega) hri hrl on;have CM:=hid cm;clear cm hbi hri;go_wp2_with fail;with_reducible refine CM.out.mono ?_
  rintro e w1 ⟨hb,kb,sb,rb,cb,B,n,M,st,K,rfl,hpr,hmd⟩;have DU:=hid (hmd.duo (zIZ _ _ _ HRB.out) HT.out);have LE:=hid hmd.le;have BL1:=hid hmd.bl;clear hpr hmd CM;unfold zB;go_upto_region 5 with (fail)
  go_loopw [9] (fun i wr=>∃ (k n:Nat) (s:St) (M st:Nat→Int),k≤300∧i=.int .i64 k∧n≤200000+9*k∧Duo (fun x=>21≤x∧x<w.heap.size) wr hb kb sb rb cb B n on s M st s M∧Bl w wr) (fun i _=>300 - (intOf i).toNat)
  case atStart=>exact ⟨0,n,_,M,st,by omega,rfl,by have:=LE.out;omega,DU.out,BL1.out⟩
  case round =>
   clear DU BL1;obtain ⟨k,n,s,M,st,hk,rfl,hn,hdu,hbl⟩:=hrel;have DU:=hid hdu;clear hdu;have BL1:=hid hbl;clear hbl;have hkI0:(0:Int)≤(k:Int):=by omega
   by_cases hlt:k<300
   ·have hltI:(k:Int)<300:=by omega
    have cs:=DU.out.hstep (by omega);unfold zB at cs;go_wp2_with fail;with_reducible refine cs.mono ?_
    rintro e w2 ⟨k',fk,fa,s',M',st',g1,rfl,g2,g3⟩;have G1:=hid g1;clear g1 cs;have B2:=hid (zJO BL1.out g3 (fun x h1 h2=>⟨h1,h2⟩));clear g3 BL1 DU;unfold zAD;go_upto_region 8 with (fail);have k9:=Bl.new w2 (.cells #[.int .i64 k',.int .i64 fk,.int .u64 fa] 33);have S9:=hid (zzn w2 (.cells #[.int .i64 k',.int .i64 fk,.int .u64 fa] 33));have D2:=hid (g2.bl k9);have N9:=hid (zG S9.out);have B3:=hid (B2.out.trans k9);clear k9 g2 B2;generalize w2.alloc (.cells #[.int .i64 k',.int .i64 fk,.int .u64 fa] 33)=V2 at *;have cr:=D2.out.rstep;generalize w2.heap.size=t9 at *;unfold zB at cr;go_wp2_with fail;with_reducible refine cr.mono ?_
    rintro e w3 ⟨k2,fk2,fa2,s2,M2,q1,rfl,q2,q3⟩;obtain ⟨rfl,rfl,rfl,rfl,rfl⟩:=q1.one G1.out;clear q1 cr;have S9b:=hid (q3.at_ S9.out (fun e=>e.1 (.inr ⟨zzr _,N9.out⟩)));have B4:=hid (zJO B3.out q3 (fun x h1 h2=>.inl ⟨h1,h2⟩));clear q3 S9 N9 B3 D2;unfold zAD;go_upto_region 9 with (fail);have k10:=Bl.new w3 (.cells #[.int .i64 k2,.int .i64 fk2,.int .u64 fa2] 33);have S10:=hid (zzn w3 (.cells #[.int .i64 k2,.int .i64 fk2,.int .u64 fa2] 33));have S9c:=hid (k10.at_ S9b.out);have D3:=hid (q2.bl k10);have B5:=hid (B4.out.trans k10);clear k10 q2 B4 S9b;generalize w3.alloc (.cells #[.int .i64 k2,.int .i64 fk2,.int .u64 fa2] 33)=V3 at *;generalize w3.heap.size=t10 at *;obtain ⟨e0,e1,e2⟩:=zD S9c.out;obtain ⟨f0,f1,f2⟩:=zD S10.out;have ct:=D3.out.same;unfold zB at ct;go_wp2_with fail;with_reducible refine ct.mono ?_
    rintro e w4 ⟨rfl,k4⟩;obtain ⟨e0,e1,e2⟩:=zD (k4.at_ S9c.out);have D4:=hid ((D3.out.bl k4).less (C':=fun x=>21≤x∧x<w.heap.size) (fun x hx=>.inl (.inl (.inl hx))));have B6:=hid (B5.out.trans k4);clear k4 ct D3 B5 S9c S10 f0 f1 f2;by_cases hz:k2=0
    ·subst hz;go_wp2_with fail;refine ⟨⟨k+1,n+9,s2,M2,st',by omega,by go_num,by omega,D4.out,B6.out⟩,?_⟩;simp only [intOf];omega
    ·have hz':=nin hz;go_wp2_with fail;with_reducible refine (zCF w4 D4.out.tabs).mono ?_
     rintro e w5 ⟨rfl,k5⟩;have ca:=(D4.out.bl k5).alike;unfold zB at ca;go_wp2_with fail;with_reducible refine ca.mono ?_
     rintro e w6 ⟨rfl,k6⟩;go_wp2_with fail;go_ret;exact ⟨rfl,(B6.out.trans k5).trans k6⟩
   ·obtain rfl:k=300:=by omega
    go_wp2_with fail;with_reducible refine (zCF wr DU.out.tabs).mono ?_
    rintro e w5 ⟨rfl,k5⟩;have ca:=(DU.out.bl k5).alike;unfold zB at ca;go_wp2_with fail;with_reducible refine ca.mono ?_
    rintro e w6 ⟨rfl,k6⟩;go_wp2_with fail;go_ret;exact ⟨rfl,(BL1.out.trans k5).trans k6⟩
section
variable {L:List Rg} {M:Nat→Int} {s:St}
end
structure Mc where
 h:Nat
 sb:Nat
 c:Nat
 B:Nat
 n:Nat
 on:Bool
 s:St
 M:Nat→Int
 st:Nat→Int
section
variable {w w':World} {K1 K2 L1 L2:Nat→Prop} {a b c:Mc}
variable {J:Nat→Prop}
end
section
variable {J J':Nat→Prop} {w w':World} {b:Nat} {k fk fa:Int}
end
end Go.Proofs.YtlhpodholnfppaaGreatDoor
