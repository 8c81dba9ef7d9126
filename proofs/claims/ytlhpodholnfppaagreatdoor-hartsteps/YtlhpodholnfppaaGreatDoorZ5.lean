/-
  Part of the proof.
-/
import Derived.Test.YtlhpodholnfppaaGreatDoorZ4
import Derived.Deep.MidRow
import Derived.Laws.BitsAll
import Derived.Laws.BitsAllLaws
import Derived.StillTail
import Derived.OrdersHeld
import Derived.Deep.RegionHeld
set_option linter.unusedVariables false
set_option linter.unusedSimpArgs false
set_option maxHeartbeats 16000000
set_option maxRecDepth 100000
set_option linter.defProp false
open Go.Lib (hid)
namespace Go.Proofs.YtlhpodholnfppaaGreatDoor
open Go.Proofs.Tryz
open Go.RowKit
theorem refPut_new (A:Option Addr) (len cap:Nat) (xs:List Int) (x:Int) (n:Nat) (w:World) (hr:Rd w A xs) (hl:xs.length=len) (hc:A=none→cap=0) (hm:len≤5100) (h1:1≤n) (h8:n≤8) :
  Calls prog 16 #[.slice A len cap,.int .u64 x,.int .i64 n] w fun e w'=>∃ B c,e=.returned (.slice B (len+n) c)∧Rd w' B (xs++putB x n)∧Below w.heap.size w w'∧∀ ad,B=some ad→w.heap.size≤ad.block:=by
 obtain ⟨i0,hi0,hz0,hz1,hz2⟩:=info_parts infoByte;have HR:=hid hr;clear hr;have HL:=hid hl;clear hl;have HC:=hid hc;clear hc;have J0:=hid hi0;clear hi0;have J1:=hid hz0;clear hz0;have J2:=hid hz1;clear hz1;have J3:=hid hz2;clear hz2;go_enter func16,ntmps16;go_wp2_with (at_builtin;refine zBK rfl (.tmp 9) (.tmp 10) 22 rfl w.heap.size 5 i0 underlying22 J0.out J1.out J2.out J3.out _ 0 [] rfl (zCc w) A len cap xs rfl (HR.out.alloc _) HL.out HC.out (by omega) (by simp) ?_;intro v1 w1 hown1 hg1;have HO1:=hid hown1;clear hown1);have hbel:Below w.heap.size w w1:=((Below.refl _ _).alloc (zzr _) _).grown hg1 (by simp) (zAL (zCc w));clear hg1
 go_loopw [7,8] (fun v i wr=>∃ k:Nat,k≤n∧i=.int .i64 k∧wr.ownsRow w.heap.size 5 1 v (len+k) (zJ (xs++putB x k))∧Below w.heap.size w wr) (fun _ i _=>n - (intOf i).toNat)
 case atStart=>exact ⟨0,by omega,rfl,by simpa [putB] using HO1.out,hbel⟩
 case round =>
  obtain ⟨k,hk,rfl,hown,hbr⟩:=hrel;clear hbel HO1;have HO:=hid hown;clear hown;by_cases hlt:k<n
  ·go_wp2_with (at_builtin;refine zBK rfl (.tmp 24) (.tmp 31) 22 rfl w.heap.size 5 i0 underlying22 J0.out J1.out J2.out J3.out _ (len+k) (xs++putB x k) rfl (HO.out.alloc _) (some ⟨wr.heap.size,0,none⟩) 1 1 [x/2^(8*k)%256] rfl (one_cell wr _) rfl (fun h=>by cases h) (by omega) (by have:=hbr.size;simp;omega) ?_;intro v2 w2 hown2 hg2);have hsz:=hbr.size;have hb2:Below w.heap.size w w2:=(hbr.alloc hsz _).grown hg2 (by simp;omega) (zAL HO.out)
   go_roundw
   case rel=>exact ⟨k+1,by omega,by go_num,by rw [zEC,← List.append_assoc];exact hown2,hb2⟩
   case measure=>simp [intOf];omega
  ·obtain rfl:k=n:=by omega
   go_wp2;go_ret;have hge:=zAL HO.out;obtain ⟨B,c,rfl,hrd,_,_⟩:=Rd.zIA HO.out;exact ⟨B,c,rfl,hrd,hbr,fun ad e=>by subst e;exact hge ad.block rfl⟩
variable {b g k n n0 s sb:Nat} {S T U:Nat→Prop} {w w' w1 w2 wr:World}
theorem fr_new (h:Fr S w w') (i j:Nat) (u v:Value) (hg:w.heap.size≤g):Fr S w ((w'.setCell ⟨g,i,none⟩ u).setCell ⟨g,j,none⟩ v):=
 ⟨h.os,h.tape,h.output,by simpa [World.setCell] using h.size,fun k hk hn=>by
  rw [zzl _ _ _ _ (by simp;omega),zzl _ _ _ _ (by simp;omega)];exact h.block k hk hn⟩
theorem lay_snoc (M:Nat→Int) (a k:Nat) (xs:List Int) (hk:k<xs.length):lay M a (xs.take (k+1))=upd (lay M a (xs.take k)) (a+k) (xs.getD k 0):=by
 rw [upd_lay,List.take_add_one,zzg hk,zzd,zzg hk];have h:=zKM M a (xs.take k) [xs[k]];rw [show (xs.take k).length=k by rw [List.length_take];omega] at h;exact h.symm
section
variable {S:Nat→Prop} {mo b0 b1:Int} {w:World} {rb:Nat} {P:List Pg} {M:Nat→Int}
theorem rp_lays (h:RP S w rb P M mo b0 b1) (a:Nat) (A:Option Addr) (len cap:Nat) (xs:List Int) (hr:Rd w A xs) (hl:xs.length=len) (hb:∀ k,0≤xs.getD k 0∧xs.getD k 0≤255) (hA:∀ ad,A=some ad→¬ S ad.block)
  (hat:a+len≤274877906944) (hlen:len≤4194304) (hon:∀ i,i<len→∃ q,OnP P ((a:Int)+(i:Int)) q) :
  Calls prog 27 #[zB rb,.int .u64 (a:Int),.slice A len cap] w fun e w'=>e=.returned (.tuple #[])∧RP S w' rb P (lay M a xs) mo b0 b1∧Fr S w w':=by
 have HR:=hid hr;clear hr;have HL:=hid hl;clear hl;have HB:=hid hb;clear hb;have HAA:=hid hA;clear hA;have HON:=hid hon;clear hon;have H:=hid h;clear h;have cs:∀ W M' (h:RP S W rb P M' mo b0 b1) (y:Nat) (z c:Int) (hz:z=y) (hy:y<2^64) (hc:0≤c∧c≤255) (hon:∃ q,OnP P y q),Calls prog 49 #[zB rb,.int .u64 z,.int .u8 c] W fun e w'=>e=.returned (.tuple #[])∧RP S w' rb P (upd M' y c) mo b0 b1∧Fr S W w':=fun W M' h y z c hz hy hc hon=>by subst hz;exact rp_set h y hy c hc hon
 have CS:=hid cs;clear cs;have hatI:(a:Int)+(len:Int)≤274877906944:=by omega
 have haI0:(0:Int)≤(a:Int):=by omega
 have HAT:=hid hat;clear hat hatI haI0;obtain ⟨Z,hZ⟩:∃ Z:Int,Z=a:=⟨_,rfl⟩;rw [← hZ];have HZ:=hid hZ;clear hZ;have hz0:0≤Z:=by have:=HZ.out;omega
 have hz1:Z≤274877906944:=by have:=HZ.out;have:=HAT.out;omega
 have hlenI:(len:Int)≤4194304:=by omega
 unfold zB at *;go_enter func27,ntmps27;go_wp2_with fail
 go_loopw [6] (fun i wr=>∃ k:Nat,k≤len∧i=.int .i64 k∧RP S wr rb P (lay M a (xs.take k)) mo b0 b1∧Fr S w wr) (fun i _=>len - (intOf i).toNat)
 case atStart=>exact ⟨0,by omega,rfl,by rw [List.take_zero,zKL];exact H.out,Fr.refl _ _⟩
 case round =>
  obtain ⟨k,hk,rfl,hrp,hfr⟩:=hrel;have HRP:=hid hrp;clear hrp;have HFR:=hid hfr;clear hfr;by_cases hlt:k<len
  ·have hr2:=HR.out.fr HFR.out (fun _=>HAA.out);obtain ⟨b,off,hA,hcell⟩:=hr2.at_ k (by rw [HL.out];exact hlt);have hA2:=hA;subst hA;have hx:=HB.out k;have HSN:=hid (lay_snoc M a k xs (by rw [HL.out];exact hlt));have hon:=HON.out k hlt;rw [show (a:Int)+(k:Int)=((a+k:Nat):Int) by omega] at hon;have HO:=hid hon;generalize xs.getD k 0=x at *;have HX:=hid hx;have hin:(k:Int)<(len:Int):=by omega
   have t1:decide (Z<274877906944)=true:=by have:=HAT.out;have:=HZ.out;simp;omega
   have t2:decide (Z+(k:Int)<274877906944)=true:=by have:=HAT.out;have:=HZ.out;simp;omega
   clear hr2 hon hA2;go_wp2_with fail;with_reducible refine (CS.out _ _ HRP.out (a+k) (Z+(k:Int)) x (by have:=HZ.out;omega) (by have:=HAT.out;omega) HX.out HO.out).mono ?_
   rintro e w1 ⟨rfl,h1,f1⟩;rw [← HSN.out] at h1;have H1:=hid h1;clear h1;have F1:=hid (HFR.out.trans f1);clear f1;go_wp2_with fail;refine ⟨⟨k+1,by omega,by go_num,H1.out,F1.out⟩,?_⟩;simp only [intOf];omega
  ·obtain rfl:k=len:=by omega
   have hfin:=HRP.out;rw [← HL.out,List.take_length] at hfin;have HF:=hid hfin;clear hfin;go_wp2_with fail
   go_end0
   exact ⟨rfl,HF.out,HFR.out⟩
theorem zHr (n:Int) (w:World) (h:n=1∨n=2∨n=4∨n=8):Calls prog 97 #[.int .i64 n] w fun x w'=>x=.returned (.bool true)∧w=w':=by
 rcases h with rfl|rfl|rfl|rfl;all_goals
  go_enter func97,ntmps97;go_wp2;go_ret;exact ⟨rfl,rfl⟩
theorem zHH (h:RP S w rb P M mo b0 b1) (a:Int) (n:Nat) (h0:0≤a) (h1:a≤18446744073709551615) (hn:n=1∨n=2∨n=4∨n=8) :
  Calls prog 96 #[zB rb,.int .u64 a,.int .i64 (n:Int)] w (zDJ w (regs P) 2 a n 2):=by
 have cw:=fun W=>zHr (n:Int) W (by omega)
 have cl:=zFA (h.bl (Bl.new w (.cells #[.int .i64 0,.int .u64 0] 31))) a n 2 h0 h1 (by omega);have CW:=hid cw;clear cw;have CL:=hid cl;clear cl hn h;unfold zB at *;go_enter func96,ntmps96;go_wp2_with fail;refine (CW.out _).mono ?_;rintro e w' ⟨rfl,rfl⟩;go_wp2_with fail;with_reducible refine CL.out.mono ?_
 rintro e w1 ⟨x,ok,rfl,hh,k⟩;have hb:=new2 w w1 _ _ _ k;obtain ⟨d0,d1⟩:=zK hb;have k1:=(Bl.new w (.cells #[.int .i64 0,.int .u64 0] 31)).trans k;have f0:∀ i,w1.frozen? ⟨w.heap.size,i,none⟩=false:=fun i=>by simp [World.frozen?,hb]
 have f00:=f0 0;have f01:=f0 1;have HB:=hid hb;clear hb;have K1:=hid k1;clear k1 k f0;rcases hh with ⟨rfl,hh⟩|⟨rfl,hx,hh⟩
 ·have HH:=hid hh;clear hh;go_wp2_with fail;refine zzb (zHD rfl _ _ w.heap.size rfl (set2 _ _ HB.out) rfl) rfl ?_;exact ⟨2,x,rfl,.inl ⟨rfl,HH.out⟩,(K1.out.set (zzr _) _).set (zzr _) _⟩
 ·have HH:=hid hh;clear hh;have HX:=hid hx;clear hx;go_wp2_with fail;refine zzb (zHD rfl _ _ w.heap.size rfl (set2 _ _ HB.out) rfl) rfl ?_;exact ⟨0,0,rfl,.inr ⟨rfl,rfl,HH.out⟩,(K1.out.set (zzr _) _).set (zzr _) _⟩
theorem zIX (h:RP S w rb P M mo b0 b1) (a n:Nat) (ha:a<2^64) (hn:n=1∨n=2∨n=4∨n=8) :
  Calls prog 57 #[zB rb,.int .u64 (a:Int),.int .i64 (n:Int)] w (zEO w (regs P) M a n):=by
 have cw:=fun W=>zHr (n:Int) W (by omega)
 have cl:=zFA (h.bl (Bl.new w (.cells #[.int .i64 0,.int .u64 0] 31))) a n 1 (by omega) (by omega) (by omega);have cb:=fun W (k:Bl w W) (ht:a+n≤274877906944)=>zIr (h.bl k) a n (by omega) (by omega)
 have cg:=fun W B c (hr:Rd W B (zf M a n))=>zFq B n c _ n W hr (zT M a n) (by omega) (by omega) (by omega) (zCh h.by_ a n)
 have HSO:=hid (zFj h.pgs);have CW:=hid cw;clear cw;have CL:=hid cl;clear cl;have CB:=hid cb;clear cb;have CG:=hid cg;clear cg h;have HN:=hid hn;clear hn;unfold zB at *;go_enter func57,ntmps57;go_wp2_with fail;refine (CW.out _).mono ?_;rintro e w' ⟨rfl,rfl⟩;go_wp2_with fail;with_reducible refine CL.out.mono ?_
 rintro e w1 ⟨x,ok,rfl,hh,k⟩;have hb:=new2 w w1 _ _ _ k;have k1:=(Bl.new w (.cells #[.int .i64 0,.int .u64 0] 31)).trans k;rcases hh with ⟨rfl,hh⟩|⟨rfl,hx,hh⟩
 ·obtain ⟨d0,d1⟩:=zK hb;have f0:∀ i,w1.frozen? ⟨w.heap.size,i,none⟩=false:=fun i=>by simp [World.frozen?,hb]
  have f00:=f0 0;have f01:=f0 1;have HB:=hid hb;clear hb;have K1:=hid k1;clear k1 k f0;have HH:=hid hh;clear hh;go_wp2_with fail;refine zzb (zt31 rfl _ _ w.heap.size rfl (set2 _ _ HB.out) rfl) rfl ?_;exact ⟨0,1,x,rfl,.inl ⟨rfl,rfl,HH.out⟩,(K1.out.set (zzr _) _).set (zzr _) _⟩
 ·have htop:=zDG HSO.out hh (by have:=HN.out;omega);have HTOP:=hid htop;clear htop;have HH:=hid hh;clear hh;have HX:=hid hx;clear hx;have HB:=hid hb;clear hb;have K1:=hid k1;clear k1 k;go_wp2_with fail;with_reducible refine (CB.out _ K1.out HTOP.out).mono ?_
  rintro e w2 ⟨B,c,rfl,hr2,k2⟩;have R2:=hid hr2;clear hr2;have HB2:=hid (k2.at_ HB.out);have K2:=hid (K1.out.trans k2);clear k2;go_wp2_with fail;with_reducible refine (CG.out _ B c R2.out).mono ?_
  rintro e w' ⟨rfl,rfl⟩;obtain ⟨d0,d1⟩:=zK HB2.out;have f0:∀ i,w2.frozen? ⟨w.heap.size,i,none⟩=false:=fun i=>by simp [World.frozen?,HB2.out]
  have f00:=f0 0;have f01:=f0 1;clear f0;go_wp2_with fail;refine zzb (zt31 rfl _ _ w.heap.size rfl (set2 _ _ HB2.out) rfl) rfl ?_;exact ⟨_,0,0,rfl,.inr ⟨rfl,rfl,rfl,HH.out⟩,(K2.out.set (zzr _) _).set (zzr _) _⟩
def zDY (S:Nat → Prop) (w:World) (rb:Nat) (P:List Pg) (M:Nat → Int) (mo b0 b1:Int) (a n:Nat) (x:Int) (e:Ending) (w':World):Prop:=∃ k y,e = .returned (zt k y) ∧
  ((k = 2∧(a:Int) ≤ y∧y < a + n∧¬ Can (regs P) 2 y∧(∀ z,(a:Int) ≤ z → z < y → Can (regs P) 2 z)∧Bl w w') ∨
   (k = 0∧y = 0∧(∀ z,(a:Int) ≤ z → z < a + n → Can (regs P) 2 z)∧RP S w' rb P (lay M a (putB x n)) mo b0 b1∧Fr S w w'))
theorem zHG (h:RP S w rb P M mo b0 b1) (a n:Nat) (x:Int) (ha:a<2^64) (hn:n=1∨n=2∨n=4∨n=8) :
  Calls prog 56 #[zB rb,.int .u64 (a:Int),.int .i64 (n:Int),.int .u64 x] w (zDY S w rb P M mo b0 b1 a n x):=by
 have cp:=zHH (h.bl (Bl.new w (.cells #[.int .i64 0,.int .u64 0] 31))) a n (by omega) (by omega) hn;have cput:=fun W=>refPut_new none 0 0 [] x n W Rd.nil_ rfl (fun _=>rfl) (by omega) (by omega) (by omega)
 simp only [List.nil_append,Nat.zero_add] at cput;have hsm:RP (fun b=>S b∧b<w.heap.size) w rb P M mo b0 b1:=h.among fun b hb hS=>⟨hS,hb⟩
 have HSO:=hid (zFj h.pgs);have HPG:=hid h.pgs;have H:=hid h;clear h;have HSM:=hid hsm;clear hsm;have CP:=hid cp;clear cp;have CPUT:=hid cput;clear cput;have HN:=hid hn;clear hn;have HA:=hid ha;clear ha;have cl:=fun W (h:RP (fun b=>S b∧b<w.heap.size) W rb P M mo b0 b1) B c (hr:Rd W B (putB x n)) (hB:∀ ad,B=some ad→w.heap.size≤ad.block) (ht:a+n≤274877906944) (hc:∀ z,(a:Int)≤z→z<a+n→Can (regs P) 2 z) =>
  rp_lays h a B n c (putB x n) hr (zBJ x n) (zHN x n) (fun ad e hh=>by have:=hB ad e;omega) ht (by have:=HN.out;omega) (fun i hi=>by
   obtain ⟨q,hq,_⟩:=hc ((a:Int)+(i:Int)) (by omega) (by omega);exact ⟨q,(zDl HPG.out).1 hq⟩)
 have CL:=hid cl;clear cl;unfold zB at *;go_enter func56,ntmps56;go_wp2_with fail;with_reducible refine CP.out.mono ?_
 rintro e w1 ⟨k,y,rfl,hh,kk⟩;have hb:=new2 w w1 _ _ _ kk;have k1:=(Bl.new w (.cells #[.int .i64 0,.int .u64 0] 31)).trans kk;have HB:=hid hb;clear hb;have K1:=hid k1;clear k1 kk;unfold zt;rcases hh with ⟨hk,hh⟩|⟨hk,hx,hh⟩
 ·subst hk;have HH:=hid hh;clear hh;have hb2:=(Bl.new w1 (.cells #[.int .i64 2,.int .u64 y] 31)).at_ HB.out;obtain ⟨d0,d1⟩:=zK hb2;obtain ⟨d2,d3⟩:=zK (zzn w1 (.cells #[.int .i64 2,.int .u64 y] 31));have f0:∀ i,(w1.alloc (.cells #[.int .i64 2,.int .u64 y] 31)).frozen? ⟨w.heap.size,i,none⟩=false:=fun i=>by simp [World.frozen?,hb2]
  have f00:=f0 0;have f01:=f0 1;have HB2:=hid hb2;clear hb2;have K2:=hid (K1.out.alloc (.cells #[.int .i64 2,.int .u64 y] 31));clear HB K1 f0;go_wp2_with fail;refine zzb (zHD rfl _ _ w.heap.size rfl (set2 _ _ HB2.out) rfl) rfl ?_;exact ⟨2,y,rfl,.inl ⟨rfl,HH.out.1,HH.out.2.1,HH.out.2.2.1,HH.out.2.2.2,(K2.out.set (zzr _) _).set (zzr _) _⟩⟩
 ·subst hk hx;have htop:=zDG HSO.out hh (by have:=HN.out;omega);have HH:=hid hh;clear hh;have HTOP:=hid htop;clear htop;go_wp2_with fail;have K2:=hid (K1.out.alloc (.cells #[.int .i64 0,.int .u64 0] 31));have HB2:=hid ((Bl.new w1 (.cells #[.int .i64 0,.int .u64 0] 31)).at_ HB.out);have HN2:=hid (zzn w1 (.cells #[.int .i64 0,.int .u64 0] 31));have HS1:=hid (show w1.heap.size<(w1.alloc (.cells #[.int .i64 0,.int .u64 0] 31)).heap.size by simp);have HS0:=hid K1.out.size;clear HB K1;obtain ⟨g2,hg2⟩:∃ g2,g2=w1.heap.size:=⟨_,rfl⟩;rw [← hg2] at HN2 HS1 HS0 ⊢;clear hg2;generalize w1.alloc (.cells #[.int .i64 0,.int .u64 0] 31)=W at *;with_reducible refine (CPUT.out _).mono ?_
  rintro e w3 ⟨B,c,rfl,hr3,k3,hB3⟩;have R3:=hid hr3;clear hr3;have HB3:=hid hB3;clear hB3;have K3:=hid (show Bl W w3 from k3);clear k3;go_wp2_with fail;with_reducible refine (CL.out _ (HSM.out.bl (K2.out.trans K3.out)) B c R3.out (fun ad e=>Nat.le_trans K2.out.size (HB3.out ad e)) HTOP.out HH.out).mono ?_
  rintro e w4 ⟨rfl,h4,f4⟩;have hb4:=f4.at_ (K3.out.at_ HB2.out) (fun e=>absurd e.2 (by omega));have hn4:=f4.at_ (K3.out.at_ HN2.out) (fun e=>absurd e.2 (by have:=HS0.out;omega));obtain ⟨d0,d1⟩:=zK hb4;obtain ⟨d2,d3⟩:=zK hn4;have f0:∀ i,w4.frozen? ⟨w.heap.size,i,none⟩=false:=fun i=>by simp [World.frozen?,hb4]
  have f00:=f0 0;have f01:=f0 1;have HB4:=hid hb4;clear hb4 hn4 f0;have f5:Fr S w ((w4.setCell ⟨w.heap.size,0,none⟩ (.int .i64 0)).setCell ⟨w.heap.size,1,none⟩ (.int .u64 0)):=
   fr_new (((Fr.zP (K2.out.trans K3.out)).trans (f4.mono fun b _ e=>e.1))) _ _ _ _ (zzr _)
  have h5:RP S ((w4.setCell ⟨w.heap.size,0,none⟩ (.int .i64 0)).setCell ⟨w.heap.size,1,none⟩ (.int .u64 0)) rb P (lay M a (putB x n)) mo b0 b1:=
   (h4.kept ((Fr.set (S:=only w.heap.size) (p:=⟨w.heap.size,0,none⟩) rfl (.int .i64 0)).trans (Fr.set (S:=only w.heap.size) (p:=⟨w.heap.size,1,none⟩) rfl (.int .u64 0))) (fun b _ hS e=>by have h7:b=w.heap.size:=e;omega)).among fun b _ e=>e.1
  have H5:=hid h5;clear h5;have F5:=hid f5;clear f5 h4 f4;go_wp2_with fail;refine zzb (zHD rfl _ _ w.heap.size rfl (set2 _ _ HB4.out) rfl) rfl ?_;exact ⟨0,0,rfl,.inr ⟨rfl,rfl,HH.out,H5.out,F5.out⟩⟩
end
theorem rnewm_any (m:Int) (h0:0≤m) (h1:m≤4096) (w:World):Calls prog 23 #[.int .i64 m] w fun e w'=>e=.returned (zB w.heap.size)∧RP (only w.heap.size) w' w.heap.size [] (fun _=>0) m 0 0∧Bl w w'∧w.heap.size<w'.heap.size:=by
 go_enter func23,ntmps23;go_wp2;go_ret;exact ⟨rfl,⟨⟨_,zzn w _,RowG.nil,fun g hg=>(by cases hg)⟩,rfl,Pgs.nil _,fun x hx=>(by cases hx),by simpa using h0,⟨h0,h1⟩,fun _=>(by omega),fun x hx=>(by cases hx),List.Pairwise.nil,fun _ _=>rfl⟩,Bl.new _ _,by simp⟩
section
variable {S:Nat→Prop} {mo b0 b1:Int} {w w':World} {rb:Nat} {P P':List Pg} {M:Nat→Int}
theorem pageOf_wiped_out {M:Nat→Int} {t p:Nat} (h:p*4096+4096≤s∨t≤p*4096):zBD (zBO M s t) p=zBD M p:=zCN _ _ _ fun o ho=>by
 simp only [zBO];rw [if_neg (by omega)]
theorem pageOf_wiped_in {M:Nat→Int} {t p:Nat} (h:s≤p*4096) (h2:p*4096+4096≤t):zBD (zBO M s t) p=List.replicate 4096 0:=zFx _ _ fun o ho=>by
 simp only [zBO];rw [if_pos (by omega)]
variable {p:Int}
theorem RP.laid (h:RP S w rb P M mo b0 b1) (hS:∀ b,w.heap.size≤b→S b) {t:Nat} (hp:0≤p∧p≤7) (hs:s%4096=0) (ht:t%4096=0) (hst:s<t)
 (hsp:zGQ w.heap.size mo b0 b1 w' rb P') (hpg:Pgs 67108864 P') (hset:zKi P P' s t p) (hl:LaidP w w' P P' s t p) (hf:Fr (only rb) w w') (hlen:(P'.length:Int)≤mo):RP S w' rb P' (zBO M s t) mo b0 b1:=by
 obtain ⟨v,h1,h2⟩:=hsp;obtain ⟨k,N,hP',hN,hZ⟩:=hl;have hold:∀ x,x∈outP P s t→S x.b∧x.b<w.heap.size∧w'.heap[x.b]?=some (zCE (zBO M s t) x.no):=fun x hx=>by
  obtain ⟨hx1,hx2⟩:=zCo.1 hx;obtain ⟨h4,h5⟩:=h.pages x hx1;have h6:=h.pgs.2 x hx1;refine ⟨h4,zG h5,?_⟩;rw [hf.at_ h5 (fun e=>by
   obtain ⟨v0,h7,_⟩:=h.sp;rw [show x.b=rb from e,h7] at h5;exact absurd (zBI h5) (by decide))]
  unfold zCE;rw [pageOf_wiped_out (by omega)]
 have hnew:∀ x,x∈N→w.heap.size≤x.b∧w'.heap[x.b]?=some (zCE (zBO M s t) x.no):=fun x hx=>by
  obtain ⟨h4,h5⟩:=hZ.z x hx;obtain ⟨h6,h7,h8⟩:=hN.mem hx;refine ⟨h4,?_⟩;rw [h5];unfold zCE zero4;rw [pageOf_wiped_in (by omega) (by omega)]
 have hmem:∀ x,x∈P'→x∈outP P s t∨x∈N:=fun x hx=>by
  rw [hP'] at hx;rcases List.mem_append.1 hx with hx|hx
  ·rcases List.mem_append.1 hx with hx|hx
   ·exact .inl (List.mem_of_mem_take hx)
   ·exact .inr hx
  ·exact .inl (List.mem_of_mem_drop hx)
 refine ⟨⟨v,h1,h2.zJX (fun g hg=>Nat.zero_le _),fun g hg=>hS g (h2.lt g hg).1⟩,h.own,hpg,fun x hx=>?_,hlen,h.mo_,fun x=>?_,fun x hx=>?_,?_,fun a ha=>?_⟩
 ·rcases hmem x hx with hx|hx
  ·exact h.pr x (zCo.1 hx).1
  ·rw [(hN.mem hx).2.2];exact hp
 ·simp only [zBO];split
  ·omega
  ·exact h.by_ x
 ·rcases hmem x hx with hx|hx
  ·exact ⟨(hold x hx).1,(hold x hx).2.2⟩
  ·exact ⟨hS _ (hnew x hx).1,(hnew x hx).2⟩
 ·rw [hP'];have ho:(outP P s t).Pairwise fun x y=>x.b≠y.b:=h.apart.sublist List.filter_sublist
  refine List.pairwise_append.2 ⟨List.pairwise_append.2 ⟨ho.sublist (List.take_sublist _ _),hZ.d,fun x hx y hy=>?_⟩,ho.sublist (List.drop_sublist _ _),fun x hx y hy=>?_⟩
  ·have g1:=(hold x (List.mem_of_mem_take hx)).2.1;have g2:=(hnew y hy).1;omega
  ·rcases List.mem_append.1 hx with hx|hx
   ·rw [← List.take_append_drop k (outP P s t)] at ho;exact (List.pairwise_append.1 ho).2.2 x hx y hy
   ·have g1:=(hold y (List.mem_of_mem_drop hy)).2.1;have g2:=(hnew x hx).1;omega
 ·simp only [zBO]
  split
  ·rfl
  ·exact h.out a fun q hq=>ha q ((hset a q).2 (.inr ⟨by omega,hq⟩))
def RLayIs (S:Nat→Prop) (w:World) (rb:Nat) (P:List Pg) (M:Nat→Int) (mo b0 b1:Int) (s t:Nat) (p:Int) (e:Ending) (w':World):Prop:=∃ r,e=.returned (.int .i64 r) ∧
 ((r=0∧∃ P',RP S w' rb P' (zBO M s t) mo b0 b1∧zKi P P' s t p∧Fr S w w'∧(regs P').length≤256)∨(r=12∧LayNo mo w P s t p w'))
theorem rp_lay (h:RP S w rb P M mo b0 b1) (hS:∀ b,w.heap.size≤b→S b) (s t:Nat) (p:Int) (hp:0≤p∧p≤7) (hs:Span (s:Int) (t:Int)) :
  Calls prog 25 #[zB rb,.int .u64 (s:Int),.int .u64 (t:Int),.int .i64 p] w (RLayIs S w rb P M mo b0 b1 s t p):=by
 have hs2:=hs;obtain ⟨s1,s2,s3,s4⟩:=hs2;refine (rlay_any h.space h.pgs (by have:=h.few;omega) s t p (by omega) hs h.mo_.1 h.mo_.2).mono ?_;rintro e w' ⟨r,rfl,hr⟩;refine ⟨r,rfl,?_⟩;rcases hr with ⟨h1,P',g1,g2,g3,g4,g5,g6,g7,g8⟩|hr
 ·refine .inl ⟨h1,P',h.laid hS hp (by omega) (by omega) (by omega) g1 g2 g3 g4 g5 g6,g3,g5.mono fun b _ e=>by rw [show b=rb from e];exact h.own,g7⟩
 ·exact .inr hr
end
def zKl (T:Nat→Prop) (w:World) (sb n:Nat) (L:List Rg) (M st:Nat→Int) (mo ba en:Int) (a b:Nat) (p:Int) (r:Int) (w':World):Prop:=
 (r=0∧Span (a:Int) (b:Int)∧0≤p∧p≤7∧(layL L a b [⟨a,b,p⟩]).length≤256∧tot (layL L a b [⟨a,b,p⟩])≤mo*4096∧zGU T w sb n (layL L a b [⟨a,b,p⟩]) M st mo ba en a b w') ∨
 (r=22∧¬ (Span (a:Int) (b:Int)∧0≤p∧p≤7)∧Bl w w') ∨
 (r=12∧Span (a:Int) (b:Int)∧(256<(layL L a b [⟨a,b,p⟩]).length∨mo*4096<tot (layL L a b [⟨a,b,p⟩]))∧Bl w w')
variable {a ba c en hn k' mo op p:Int} {L:List Rg} {M M1 M2 st:Nat→Int}
theorem mlay_any (h:MS T w sb n L M st mo ba en) (a b:Nat) (p:Int) (ha:a<2^64) (hb:b<2^64) (hn:n<80000000) (hT:∀ b,w.heap.size≤b→T b):
  Calls prog 43 #[zB sb,.int .u64 (a:Int),.int .u64 (b:Int),.int .i64 p] w fun e w'=>∃ r,e=.returned (.int .i64 r)∧zKl T w sb n L M st mo ba en a b p r w':=by
 by_cases hs:Span (a:Int) (b:Int)∧0≤p∧p≤7
 ·obtain ⟨hs,hp0,hp1⟩:=hs;rcases Nat.lt_or_ge 256 (layL L a b [⟨a,b,p⟩]).length with hc|hc
  ·refine (mlay_many h a b p hs hp0 hp1 hc).mono ?_;rintro e w' ⟨rfl,k⟩;exact ⟨12,rfl,.inr (.inr ⟨rfl,hs,.inl hc,k⟩)⟩
  ·rcases Int.lt_or_le (mo*4096) (tot (layL L a b [⟨a,b,p⟩])) with ht|ht
   ·refine (mlay_full h a b p hs hp0 hp1 hc ht).mono ?_;rintro e w' ⟨rfl,k⟩;exact ⟨12,rfl,.inr (.inr ⟨rfl,hs,.inr ht,k⟩)⟩
   ·refine (mlay_ok h a b p hs hp0 hp1 hc ht hn hT).mono ?_;rintro e w' ⟨rfl,k⟩;exact ⟨0,rfl,.inl ⟨rfl,hs,hp0,hp1,hc,ht,k⟩⟩
 ·refine (mlay_no h a b p (by omega) (by omega) (by omega) (by omega) hs).mono ?_;rintro e w' ⟨rfl,k⟩;exact ⟨22,rfl,.inr (.inl ⟨rfl,hs,k⟩)⟩
def MapPost (T:Nat→Prop) (w:World) (sb n:Nat) (L:List Rg) (M st:Nat→Int) (mo ba en:Int) (a b:Nat) (p:Int) (e:Ending) (w':World):Prop:=
 ∃ r,e=.returned (.tuple #[.int .u64 (if r=0 then (a:Int) else 0),.int .i64 r])∧zKl T w sb n L M st mo ba en a b p r w'
theorem mmap_fixed (h:MS T w sb n L M st mo ba en) (a:Nat) (size p:Int) (ha:a<2^64) (h1:0≤size) (hv:(a:Int)%4096=0∧size≠0∧size≤274877906944∧0≤p∧p≤7) (hn:n<80000000) (hT:∀ b,w.heap.size≤b→T b) (b:Nat) (hb:(b:Int)=IntKind.u64.wrap (a+(size+4095)/4096*4096)):
  Calls prog 24 #[zB sb,.int .u64 (a:Int),.int .u64 size,.int .i64 p,.bool true] w (MapPost T w sb n L M st mo ba en a b p):=by
 obtain ⟨a1,a2,a3,a4,a5⟩:=hv;have t1:((a:Int)%4096 != 0)=false:=by simp [a1]
 have t2:(size==0)=false:=by simp [a2]
 have t3:decide (274877906944<size)=false:=by simp;omega
 have cp:=fun W=>misProt_yes p W a4 a5
 have cu:=fun W=>mup_any size W
 rw [upW_in h1 a3] at cu;have cl:=mlay_any h a b p ha (by have:=zJb (a+(size+4095)/4096*4096);omega) hn hT;generalize (size+4095)/4096*4096=sz at *;rw [hb] at cl;have CP:=hid cp;clear cp;have CU:=hid cu;clear cu;have CL:=hid cl;clear cl a1 a2 h hb;unfold zB at *;have hx0:(0:Int)≤(a:Int):=by omega
 have hx1:(a:Int)≤18446744073709551615:=by omega
 go_enter func24,ntmps24;go_wp2_with fail;refine (CP.out _).mono ?_;rintro e w' ⟨rfl,rfl⟩;go_wp2_with fail;refine (CU.out _).mono ?_;rintro e w' ⟨rfl,rfl⟩;go_wp2_with fail;refine CL.out.mono ?_;rintro e w' ⟨r,rfl,hl⟩;have HL:=hid hl;clear hl;by_cases hr:r=0
 ·subst hr;go_wp2_with fail;go_ret2;exact ⟨0,by rw [if_pos rfl];rfl,HL.out⟩
 ·have t5:(r != 0)=true:=by simp [hr]
  have HR:=hid hr;clear hr;go_wp2_with fail;go_ret2;exact ⟨r,by rw [if_neg HR.out];rfl,HL.out⟩
theorem rest_any (a:Int) (w:World) (h0:0≤a):Calls prog 46 #[.int .u64 a] w fun e w'=>e=.returned (.int .i64 (4096 - a%4096))∧w=w':=by
 go_enter func46,ntmps46;go_wp2;go_ret;exact ⟨rfl,rfl⟩
variable {r:Rg}
theorem page_in (h:Rs L) (hr:r∈L) {a d:Nat} (h1:r.s≤a) (h2:(a:Int)<r.e) (hd:d≤4096 - a%4096):(a:Int)+d≤r.e:=by
 have:=h.al r hr
 have:=h.nm.so.2 r hr
 omega
structure PR (T:Nat→Prop) (w:World) (sb n0:Nat) (L:List Rg) (P:Nat→(Nat→Int)→(Nat→Int)→Prop) (mo ba en:Int) (xs:List Int) (t:Nat) (wr:World) (A:Option Addr) (cap:Nat):Prop where
 le:t≤xs.length
 cap_:xs.length - t≤cap
 rd:Rd wr A (xs.drop t)
 out:t<xs.length→∀ ad,A=some ad→¬ T ad.block
 ms:∃ M st,MS T wr sb (n0+6*t) L M st mo ba en∧P t M st
 fr:Fr T w wr
def zKj (L:List Rg) (a:Nat) (xs:List Int) (P:Nat→(Nat→Int)→(Nat→Int)→Prop):Prop:=∀ t M st (c d:Nat),P t M st→t<xs.length→c=(a+t)%18446744073709551616→d=min (xs.length - t) (4096 - c%4096) →
 ((∃ q,In L c q)→∀ st',Rise st st' (fun p=>∃ x,c≤x∧x<c+d∧p=x/4096)→P (t+d) (lay M c ((xs.drop t).take d)) st')∧((∀ q,¬ In L c q)→P (t+d) M st)
variable {xs:List Int}
theorem getD_drop_take (h:∀ k,0≤xs.getD k 0∧xs.getD k 0≤255) (t d:Nat):∀ k,0≤((xs.drop t).take d).getD k 0∧((xs.drop t).take d).getD k 0≤255:=fun k=>by
 rw [zzd,List.getElem?_take]
 split
 ·rw [List.getElem?_drop]
  have:=h (t+k)
  rwa [zzd] at this
 ·simp
theorem PR.step {P:Nat→(Nat→Int)→(Nat→Int)→Prop} {t d:Nat} {w3:World} {B:Option Addr} {cp:Nat} (h:PR T w sb n0 L P mo ba en xs t wr B cp) (hd:d≤xs.length - t) (hd0:0<d) (hm:MS T w3 sb (n0+6*(t+d)) L M st mo ba en) (hp:P (t+d) M st) (fr:Fr T wr w3):
  PR T w sb n0 L P mo ba en xs (t+d) w3 (if cp=d then B else B.map (·.add d)) (cp - d):=by
 have hcap:=h.cap_;have hle:=h.le;refine ⟨by omega,by omega,?_,?_,⟨M,st,hm,hp⟩,h.fr.trans fr⟩
 ·have h1:=(h.rd.fr fr (fun h0=>h.out (by omega))).drop d cp (by rw [List.length_drop];omega) (by rw [List.length_drop];omega);rw [List.drop_drop] at h1;exact h1
 ·intro _ ad had
  split at had
  ·exact h.out (by omega) ad had
  ·rcases B with _|a0
   ·cases had
   ·simp only [Option.map_some,Option.some.injEq] at had;subst had;rw [add_block];exact h.out (by omega) a0 rfl
theorem zJF (a t c d:Nat) (h:c=(a+t)%18446744073709551616):IntKind.u64.wrap ((c:Int)+(d:Int))=(((a+(t+d))%18446744073709551616:Nat):Int):=by
 rw [IntKind.wrap_u64];omega
theorem mput_any (h:MS T w sb n0 L M st mo ba en) (a:Nat) (A:Option Addr) (len cap:Nat) (xs:List Int) (hr:Rd w A xs) (hl:xs.length=len) (hlc:len≤cap) (hb:∀ k,0≤xs.getD k 0∧xs.getD k 0≤255)
 (hA:0<len→∀ ad,A=some ad→¬ T ad.block) (ha:a<2^64) (hlen:len≤100000) (hn:n0<10000000) (hT:∀ b,w.heap.size≤b→T b) (P:Nat→(Nat→Int)→(Nat→Int)→Prop) (hP0:P 0 M st) (hP:zKj L a xs P):
  Calls prog 26 #[zB sb,.int .u64 (a:Int),.slice A len cap] w fun e w'=>e=.returned (.tuple #[])∧∃ M' st',MS T w' sb (n0+6*len) L M' st' mo ba en∧P len M' st'∧Fr T w w':=by
 have hpr:PR T w sb n0 L P mo ba en xs 0 w A cap:=⟨Nat.zero_le _,by omega,hr,fun h0=>hA (by omega),⟨M,st,h,hP0⟩,Fr.refl _ _⟩;have HPR:=hid hpr;clear hpr h hr hA hP0;have HL:=hid hl;clear hl;have HB:=hid hb;clear hb;have HT:=hid hT;clear hT;have HP:=hid hP;clear hP;have hlI:(len:Int)≤100000:=by omega
 unfold zB;go_enter func26,ntmps26;go_wp2_with fail
 go_loopw [1,2,6,7,8] (fun v1 v2 _ _ _ wr=>∃ (t cp:Nat) (B:Option Addr),v1=.int .u64 (((a+t)%18446744073709551616:Nat):Int)∧v2=.slice B (len - t) cp∧PR T w sb n0 L P mo ba en xs t wr B cp) (fun _ v2 _ _ _ _=>lenV v2)
 case atStart=>exact ⟨0,cap,A,by congr 2;omega,rfl,HPR.out⟩
 case round =>
  obtain ⟨t,cp,B,rfl,rfl,hpr⟩:=hrel;clear HPR;have htl:=hpr.le;rw [HL.out] at htl;by_cases hlt:t<len
  ·obtain ⟨c,hc⟩:∃ c,c=(a+t)%18446744073709551616:=⟨_,rfl⟩;rw [← hc];obtain ⟨d,hd⟩:∃ d,d=min (len - t) (4096 - c%4096):=⟨_,rfl⟩;have hd0:0<d:=by omega
   have hd1:d≤len - t:=by omega
   have hd2:d≤4096 - c%4096:=by omega
   have hc0:(c:Int)≤18446744073709551615:=by omega
   have hcp:=hpr.cap_;rw [HL.out] at hcp;have hmn:∀ W',(Builtin.min_ #[3,3] 3 #[.int .i64 ((len - t:Nat):Int),.int .i64 (4096 - (c:Int)%4096)]).run prog W'=.ok (.int .i64 (d:Int)) W':=by
    intro W';rw [zDr]
    congr 2
    split<;>omega
   obtain ⟨M1,st1,hms,hp1⟩:=hpr.ms;have hstep:=HP.out t M1 st1 c d hp1 (by rw [HL.out];exact hlt) hc (by rw [HL.out];exact hd);obtain ⟨X,hX⟩:=hms.list;have cat:=at_any hX hms.so (c:Int) (by have:=hms.few;omega);have CAT:=hid cat;clear cat hX;have CR:=hid (fun W=>rest_any (c:Int) W (by omega));have HPRR:=hid hpr;clear hpr;have HMS:=hid hms;clear hms;have HST:=hid hstep;clear hstep hp1;have HC:=hid hc;clear hc;have HD:=hid hd;clear hd;have hrlI:(0:Int)<((len - t:Nat):Int):=by omega
   have hd0I:(0:Int)<(d:Int):=by omega
   have hdI:(d:Int)≤((len - t:Nat):Int):=by omega
   have hdcI:(d:Int)≤(cp:Int):=by omega
   unfold zB at *;go_wp2_with fail;refine (CR.out _).mono ?_;rintro e w' ⟨rfl,rfl⟩;go_wp2_with fail;refine CAT.out.mono ?_;rintro e w1 ⟨r,ok,rfl,hok,k1⟩;clear CAT CR hmn;have K1:=hid (k1.alloc (.cells #[.int .u64 r.s,.int .u64 r.e,.int .i64 r.p] 112));unfold rgV;rcases hok with ⟨rfl,m1,m2,m3⟩|⟨rfl,rfl,m1⟩
   ·have hin:∃ q,In L c q:=⟨r.p,r,m1,m2,m3,rfl⟩;have htop:=page_in HMS.out.rs m1 m2 m3 hd2;have hto2:=HMS.out.so.2 r m1;have HIN:=hid hin;have HTOP:Hid (c+d≤274877906944):=hid (by omega);clear m1 m2 m3 hin htop hto2 k1;obtain ⟨rs_,re_,rp_⟩:=r;simp only at K1 ⊢;have hs2:=zHn B (len - t) cp d (by omega);go_wp2_with fail;generalize w1.alloc (.cells #[.int .u64 rs_,.int .u64 re_,.int .i64 rp_] 112)=W at *
    go_region_with (go_at_call 48;have hmW:=HMS.out.bl K1.out;refine (zGq (hmW.bl (Bl.refl W).drew) c B d cp ((xs.drop t).take d) ((HPRR.out.rd.fr (Fr.zP (S:=T) K1.out.drew) (fun _=>HPRR.out.out (by rw [HL.out];exact hlt))).take d) (by rw [List.length_take,List.length_drop,HL.out];omega) (by omega) (getD_drop_take HB.out t d) (fun _=>HPRR.out.out (by rw [HL.out];exact hlt)) HTOP.out (by omega) (by omega) (fun b hb=>HT.out b (Nat.le_trans HPRR.out.fr.size (Nat.le_trans K1.out.size hb)))).mono ?_;rintro e w3 ⟨rfl,st3,m3,r3,f3⟩)
    all_goals (
     have hpg:zCT c d≤2*d:=by unfold zCT;split<;>omega
     have hpr2:=HPRR.out.step (by rw [HL.out];exact hd1) hd0 (m3.mono (by omega)) (HST.out.1 HIN.out st3 r3) ((Fr.zP (K1.out.drew)).trans f3);have HPR2:=hid hpr2;clear hpr2 m3 r3 f3 hs2 hpg HMS HST K1 HPRR;go_wp2_with fail;refine ⟨⟨t+d,cp - d,_,by rw [zJF a t c d HC.out],by congr 1;omega,HPR2.out⟩,by simp only [lenV];omega⟩)
   ·have HNO:=hid m1;clear m1 k1;simp only at K1 ⊢;have hpr2:=HPRR.out.step (by rw [HL.out];exact hd1) hd0 ((HMS.out.bl K1.out).mono (by omega)) (HST.out.2 HNO.out) (Fr.zP K1.out);have HPR2:=hid hpr2;clear hpr2 HMS HST HPRR;go_wp2_with fail;refine ⟨⟨t+d,cp - d,_,by rw [zJF a t c d HC.out],by congr 1;omega,HPR2.out⟩,by simp only [lenV];omega⟩
  ·obtain rfl:t=len:=by omega
   rw [show t - t=0 by omega];have HPRR:=hid hpr;clear hpr hlt;go_wp2_with fail
   go_end0
   obtain ⟨M1,st1,m1,p1⟩:=HPRR.out.ms;exact ⟨rfl,M1,st1,m1,p1,HPRR.out.fr⟩
theorem mpeek_any (h:MS T w sb n L M st mo ba en) (a m:Nat) (ha:a<2^64) (h1:1≤m) (h2:m≤4194304):
  Calls prog 34 #[zB sb,.int .u64 (a:Int),.int .i64 (m:Int)] w (zFO w M a m):=by
 obtain ⟨rg,f,k0,h3,_,_⟩:=h.ex;have cr:=zIu h3 a m ha h1 h2;have CR:=hid cr;clear cr h3 h;unfold zB;go_enter func34,ntmps34;go_wp2_with fail;refine CR.out.mono ?_;rintro e w1 ⟨rfl,hb,k1⟩;have HB:=hid hb;clear hb;have K1:=hid k1;clear k1 CR;go_wp2_with fail;go_ret;exact ⟨rfl,HB.out,K1.out⟩
theorem u8_in (h:(Lit.int .u8 a).wf=true):0≤a∧a≤255:=by
 have h4:(decide ((0:Int)≤a)&&decide (a≤255))=true:=h
 simpa only [Bool.and_eq_true,decide_eq_true_eq] using h4
theorem u32_in (h:(Lit.int .u32 a).wf=true):0≤a∧a≤4294967295:=by
 have h4:(decide ((0:Int)≤a)&&decide (a≤4294967295))=true:=h
 simpa only [Bool.and_eq_true,decide_eq_true_eq] using h4
theorem u64_wf (h:(Lit.int .u64 a).wf=true):0≤a∧a≤18446744073709551615:=by
 have h4:(decide ((0:Int)≤a)&&decide (a≤18446744073709551615))=true:=h
 simpa only [Bool.and_eq_true,decide_eq_true_eq] using h4
structure HI (L:List Rg) (M:Nat→Int) (en at_:Int):Prop where
 rs:Rs L
 pl:∀ x q,In L x q↔q=3∧((8192≤x∧x<(en+4095)/4096*4096)∨(at_≤x∧x<at_+4096))
 zero:∀ x:Nat,(x:Int)<at_→M x=0
 e0:8192≤en
 e1:(en+4095)/4096*4096≤at_
 a0:at_%4096=0
 a1:at_≤126976
theorem bit_all:∀ n:Fin 256,((bits .and .i64 ((n.val:Int)%8) 2=2)↔(bits .and .u8 (n.val:Int) 2 != 0)=true)∧((bits .and .i64 ((n.val:Int)%8) 1=1)↔(bits .and .u8 (n.val:Int) 1 != 0)=true):=by decide +kernel
theorem bit2 (c:Int) (h0:0≤c) (h1:c≤255):(bits .and .i64 (c%8) 2=2)↔(bits .and .u8 c 2 != 0)=true:=by
 obtain ⟨n,rfl⟩:=zze h0;exact (bit_all ⟨n,by omega⟩).1
structure Two (K:Nat→Prop) (w:World) (sb rb n:Nat) (L:List Rg) (M st:Nat→Int) (mo ba en:Int) (L2:List Rg) (M2:Nat→Int):Prop where
 ex:∃ T1 T2 P,MS T1 w sb n L M st mo ba en∧RP T2 w rb P M2 mo ba en∧regs P=L2∧(∀ b,b<w.heap.size→T1 b→¬ T2 b)∧(∀ b,K b→¬ T1 b∧¬ T2 b)∧∀ b,w.heap.size≤b→T1 b∧T2 b
section
variable {K:Nat→Prop} {w w':World} {sb rb n:Nat} {L L2:List Rg} {M st M2:Nat→Int} {mo ba en:Int}
theorem Two.less (h:Two K w sb rb n L M st mo ba en L2 M2) {J:Nat→Prop} (hJ:∀ b,J b→K b):Two J w sb rb n L M st mo ba en L2 M2:=by
 obtain ⟨T1,T2,P,h1,h2,h3,h4,h5,h6⟩:=h.ex;exact ⟨T1,T2,P,h1,h2,h3,h4,fun b hb=>h5 b (hJ b hb),h6⟩
theorem Two.bl (h:Two K w sb rb n L M st mo ba en L2 M2) (k:Bl w w'):Two (fun b=>K b∨(w.heap.size≤b∧b<w'.heap.size)) w' sb rb n L M st mo ba en L2 M2:=by
 obtain ⟨T1,T2,P,h1,h2,h3,h4,h5,h6⟩:=h.ex;have hs:=k.size;refine ⟨fun b=>T1 b∧(b<w.heap.size∨w'.heap.size≤b),fun b=>T2 b∧(b<w.heap.size∨w'.heap.size≤b),P,(h1.among fun b hb hT=>⟨hT,.inl hb⟩).bl k,(h2.among fun b hb hT=>⟨hT,.inl hb⟩).bl k,h3,fun b hb e1 e2=>?_,fun b hb=>?_,fun b hb=>?_⟩
 ·rcases e1.2 with h7|h7
  ·exact h4 b h7 e1.1 e2.1
  ·omega
 ·rcases hb with hb|hb
  ·exact ⟨fun e=>(h5 b hb).1 e.1,fun e=>(h5 b hb).2 e.1⟩
  ·exact ⟨fun e=>by rcases e.2 with h7|h7<;>omega,fun e=>by rcases e.2 with h7|h7<;>omega⟩
 ·exact ⟨⟨(h6 b (by omega)).1,.inr hb⟩,⟨(h6 b (by omega)).2,.inr hb⟩⟩
theorem Two.call1 (h:Two K w sb rb n L M st mo ba en L2 M2):∃ T1,MS T1 w sb n L M st mo ba en∧(∀ b,w.heap.size≤b→T1 b)∧∀ w' n' L' M' st' mo' ba' en',mo'=mo→ba'=ba→en'=en→MS T1 w' sb n' L' M' st' mo' ba' en'→Fr T1 w w'→Two K w' sb rb n' L' M' st' mo ba en L2 M2∧Fr (fun b=>¬ K b) w w':=by
 obtain ⟨T1,T2,P,h1,h2,h3,h4,h5,h6⟩:=h.ex;refine ⟨T1,h1,fun b hb=>(h6 b hb).1,fun w' n' L' M' st' mo' ba' en' e1 e2 e3 hm hf=>⟨?_,hf.mono fun b _ hT e=>(h5 b e).1 hT⟩⟩;subst e1 e2 e3;have hs:=hf.size;refine ⟨T1,fun b=>T2 b∧(b<w.heap.size∨w'.heap.size≤b),P,hm,(h2.among fun b hb hT=>⟨hT,.inl hb⟩).kept hf (fun b hb e e2=>h4 b hb e2 e.1),h3,fun b hb e1 e2=>?_,fun b hb=>⟨(h5 b hb).1,fun e=>(h5 b hb).2 e.1⟩,fun b hb=>⟨(h6 b (by omega)).1,⟨(h6 b (by omega)).2,.inr hb⟩⟩⟩;rcases e2.2 with h7|h7
 ·exact h4 b h7 e1 e2.1
 ·omega
theorem Two.call2 (h:Two K w sb rb n L M st mo ba en L2 M2):∃ T2 P,RP T2 w rb P M2 mo ba en∧regs P=L2∧(∀ b,w.heap.size≤b→T2 b)∧∀ w' P' M2',RP T2 w' rb P' M2' mo ba en→Fr T2 w w'→Two K w' sb rb n L M st mo ba en (regs P') M2'∧Fr (fun b=>¬ K b) w w':=by
 obtain ⟨T1,T2,P,h1,h2,h3,h4,h5,h6⟩:=h.ex;refine ⟨T2,P,h2,h3,fun b hb=>(h6 b hb).2,fun w' P' M2' hm hf=>⟨?_,hf.mono fun b _ hT e=>(h5 b e).2 hT⟩⟩;have hs:=hf.size;have g1:MS (fun b=>T1 b∧(b<w.heap.size∨w'.heap.size≤b)) w' sb n L M st mo ba en:=by
  have g:=h1.among (U:=fun b=>T1 b∧b<w.heap.size) fun b hb hT=>⟨hT,hb⟩
  have g2:=g.kept hf (fun b e e2=>h4 b e.2 e.1 e2);exact g2.among fun b hb e=>⟨e.1,.inl e.2⟩
 refine ⟨fun b=>T1 b∧(b<w.heap.size∨w'.heap.size≤b),T2,P',g1,hm,rfl,fun b hb e1 e2=>?_,fun b hb=>⟨fun e=>(h5 b hb).1 e.1,(h5 b hb).2⟩,fun b hb=>⟨⟨(h6 b (by omega)).1,.inr hb⟩,(h6 b (by omega)).2⟩⟩;rcases e1.2 with h7|h7
 ·exact h4 b h7 e1.1 e2
 ·omega
theorem Two.kept (h:Two K w sb rb n L M st mo ba en L2 M2) (hf:Fr U w w') (hU:∀ b,b<w.heap.size→U b→K b) (hsz:w'.heap.size=w.heap.size):Two K w' sb rb n L M st mo ba en L2 M2:=by
 obtain ⟨T1,T2,P,h1,h2,h3,h4,h5,h6⟩:=h.ex;have g1:MS T1 w' sb n L M st mo ba en:=by
  have g:=h1.among (U:=fun b=>T1 b∧b<w.heap.size) fun b hb hT=>⟨hT,hb⟩
  exact (g.kept hf (fun b e e2=>(h5 b (hU b e.2 e2)).1 e.1)).among fun b hb e=>e.1
 exact ⟨T1,T2,P,g1,h2.kept hf (fun b hb e e2=>(h5 b (hU b hb e2)).2 e),h3,by rw [hsz];exact h4,h5,by rw [hsz];exact h6⟩
end
def zM:Nat→Int:=fun _=>0
theorem zIi (a b:Nat):zBO zM a b=zM:=by funext x;simp only [zBO,zM];split<;>rfl
section
variable {K:Nat→Prop} {w:World} {sb rb n:Nat} {L:List Rg} {st:Nat→Int} {pr:Nat→Int} {i:Nat}
end
def zHW (pc:Int) (xs:List Int) (at_ held:Int) (rb:Nat):List Value:=(.int .u64 pc :: xs.map (Value.int .u64))++[.int .u64 at_,.int .i64 held,zB rb]
structure HAt (w:World) (hb rb:Nat) (pc:Int) (xs:List Int) (at_ held:Int):Prop where
 blk:w.heap[hb]?=some (.cells (zHW pc xs at_ held rb).toArray 74 (0,0))
 len:xs.length=32
section
variable {w w':World} {hb rb:Nat} {pc at_ held:Int} {xs:List Int}
theorem HAt.lt (h:HAt w hb rb pc xs at_ held):hb<w.heap.size:=zG h.blk
theorem HAt.frozen (h:HAt w hb rb pc xs at_ held) (i:Nat):w.frozen? ⟨hb,i,none⟩=false:=by simp [World.frozen?,h.blk]
theorem zHV {pc:Int} {xs:List Int} (h:xs.length=32):(Value.int IntKind.u64 pc :: xs.map (Value.int .u64)).length=33:=by simp [h]
theorem HAt.cells (h:HAt w hb rb pc xs at_ held):w.cell? ⟨hb,33,none⟩=some (.int .u64 at_)∧w.cell? ⟨hb,34,none⟩=some (.int .i64 held)∧w.cell? ⟨hb,35,none⟩=some (zB rb):=by
 have hl:=zHV (pc:=pc) h.len;refine ⟨?_,?_,?_⟩<;>rw [zzc w hb _ _ _ (0,0) h.blk]<;>unfold zHW<;>rw [List.getElem?_toArray,List.getElem?_append_right (by omega),hl]<;>rfl
theorem HAt.setAt (h:HAt w hb rb pc xs at_ held) (a:Int):HAt (w.setCell ⟨hb,33,none⟩ (.int .u64 a)) hb rb pc xs a held:=by
 have hl:=zHV (pc:=pc) h.len;refine ⟨?_,h.len⟩;rw [zzs w hb 33 _ _ _ h.blk];unfold zHW;rw [List.setIfInBounds_toArray,List.set_append_right _ _ (by omega),hl];rfl
theorem HAt.zIW (h:HAt w hb rb pc xs at_ held) (a:Int):HAt (w.setCell ⟨hb,34,none⟩ (.int .i64 a)) hb rb pc xs at_ a:=by
 have hl:=zHV (pc:=pc) h.len;refine ⟨?_,h.len⟩;rw [zzs w hb 34 _ _ _ h.blk];unfold zHW;rw [List.setIfInBounds_toArray,List.set_append_right _ _ (by omega),hl];rfl
end
theorem first_two {m:Int} (h1:MS (fun b=>w.heap.size≤b) w1 w.heap.size 0 [] (fun _=>0) (fun _=>0) m 0 0) (k1:Bl w w1) (s1:w1.heap.size=w.heap.size+1) (h2:RP (only w1.heap.size) w2 w1.heap.size [] (fun _=>0) m 0 0) (k2:Bl w1 w2) (s2:w1.heap.size<w2.heap.size):
  Two (fun b=>b<w.heap.size) w2 w.heap.size (w.heap.size+1) 0 [] zM zM m 0 0 [] zM:=by
 rw [s1] at h2 s2;have hs:=k2.size;refine ⟨fun b=>w.heap.size≤b∧(b=w.heap.size∨w2.heap.size≤b),fun b=>b=w.heap.size+1∨w2.heap.size≤b,[],?_,h2.among (fun b _ e=>.inl e),rfl,fun b hb e1 e2=>?_,fun b hb=>⟨fun e=>by omega,fun e=>by omega⟩,fun b hb=>⟨⟨by omega,.inr hb⟩,.inr hb⟩⟩
 ·exact (h1.among (U:=fun b=>w.heap.size≤b∧(b=w.heap.size∨w2.heap.size≤b)) (fun b hb e=>⟨e,.inl (by omega)⟩)).bl k2
 ·omega
theorem zIM {a b:World} {J:Nat→Prop} (hJ:∀ q,q<w.heap.size→J q) (hb:Bl w a) (f:Fr (fun b=>¬ J b) a b):Bl w b:=
 ⟨f.os.trans hb.os,f.tape.trans hb.tape,f.output.trans hb.output,Nat.le_trans hb.size f.size,fun q hq=>(f.block q (Nat.lt_of_lt_of_le hq hb.size) (fun e=>e (hJ q hq))).trans (hb.block q hq)⟩
theorem zFL (op:Int):(awid op=0∧(op<63∨84<op))∨(awid op≠0∧63≤op∧op≤84):=by
 rcases (by omega:(63≤op∧op≤73)∨(74≤op∧op≤84)∨(op<63∨84<op)) with h|h|h
 ·rw [zIQ h];omega
 ·rw [zIP h];omega
 ·rw [zGN h];omega
theorem zIf (op:Int):op∈zu↔(65≤op∧op≤73)∨(76≤op∧op≤84):=by
 simp only [zu,List.mem_cons,zzm,or_false];omega
theorem zO.one {ha:Int} {a:Nat} {x:Int} {o p:Out} (h:zO L M ha hn op a x o M1) (k:zO L M ha hn op a x p M2):o=p∧M1=M2:=by
 have hw:=zFL op;have hm:=zIf op;cases h with
 | none_ e01=>cases k with
  | none_ e02=>exact ⟨rfl,rfl⟩
  | align e02 e12=>exfalso;omega
  | scBad z2 e02 e12 f2=>exfalso;omega
  | scNo e02 e12 g2 n2=>exfalso;omega
  | scYes e02 e12 g2 n2=>exfalso;omega
  | lrBad z2 e02 e12 f2=>exfalso;omega
  | lrYes e02 e12 g2=>exfalso;omega
  | amBad z2 e02 e12 f2=>exfalso;rw [hm] at e02;omega
  | amNo z2 e02 e12 g2 f2=>exfalso;rw [hm] at e02;omega
  | amYes e02 e12 g2 f2=>exfalso;rw [hm] at e02;omega
 | align e01 e11=>cases k with
  | none_ e02=>exfalso;omega
  | align e02 e12=>exact ⟨rfl,rfl⟩
  | scBad z2 e02 e12 f2=>exfalso;omega
  | scNo e02 e12 g2 n2=>exfalso;omega
  | scYes e02 e12 g2 n2=>exfalso;omega
  | lrBad z2 e02 e12 f2=>exfalso;omega
  | lrYes e02 e12 g2=>exfalso;omega
  | amBad z2 e02 e12 f2=>exfalso;rw [hm] at e02;omega
  | amNo z2 e02 e12 g2 f2=>exfalso;rw [hm] at e02;omega
  | amYes e02 e12 g2 f2=>exfalso;rw [hm] at e02;omega
 | scBad z1 e01 e11 f1=>cases k with
  | none_ e02=>exfalso;omega
  | align e02 e12=>exfalso;omega
  | scBad z2 e02 e12 f2=>obtain rfl:=f1.one f2;exact ⟨rfl,rfl⟩
  | scNo e02 e12 g2 n2=>exact (zg.not f1 g2).elim
  | scYes e02 e12 g2 n2=>exact (zg.not f1 g2).elim
  | lrBad z2 e02 e12 f2=>exfalso;omega
  | lrYes e02 e12 g2=>exfalso;omega
  | amBad z2 e02 e12 f2=>exfalso;rw [hm] at e02;omega
  | amNo z2 e02 e12 g2 f2=>exfalso;rw [hm] at e02;omega
  | amYes e02 e12 g2 f2=>exfalso;rw [hm] at e02;omega
 | scNo e01 e11 g1 n1=>cases k with
  | none_ e02=>exfalso;omega
  | align e02 e12=>exfalso;omega
  | scBad z2 e02 e12 f2=>exact (zg.not f2 g1).elim
  | scNo e02 e12 g2 n2=>exact ⟨rfl,rfl⟩
  | scYes e02 e12 g2 n2=>exact absurd n2 n1
  | lrBad z2 e02 e12 f2=>exfalso;omega
  | lrYes e02 e12 g2=>exfalso;omega
  | amBad z2 e02 e12 f2=>exfalso;rw [hm] at e02;omega
  | amNo z2 e02 e12 g2 f2=>exfalso;rw [hm] at e02;omega
  | amYes e02 e12 g2 f2=>exfalso;rw [hm] at e02;omega
 | scYes e01 e11 g1 n1=>cases k with
  | none_ e02=>exfalso;omega
  | align e02 e12=>exfalso;omega
  | scBad z2 e02 e12 f2=>exact (zg.not f2 g1).elim
  | scNo e02 e12 g2 n2=>exact absurd n1 n2
  | scYes e02 e12 g2 n2=>exact ⟨rfl,rfl⟩
  | lrBad z2 e02 e12 f2=>exfalso;omega
  | lrYes e02 e12 g2=>exfalso;omega
  | amBad z2 e02 e12 f2=>exfalso;rw [hm] at e02;omega
  | amNo z2 e02 e12 g2 f2=>exfalso;rw [hm] at e02;omega
  | amYes e02 e12 g2 f2=>exfalso;rw [hm] at e02;omega
 | lrBad z1 e01 e11 f1=>cases k with
  | none_ e02=>exfalso;omega
  | align e02 e12=>exfalso;omega
  | scBad z2 e02 e12 f2=>exfalso;omega
  | scNo e02 e12 g2 n2=>exfalso;omega
  | scYes e02 e12 g2 n2=>exfalso;omega
  | lrBad z2 e02 e12 f2=>obtain rfl:=f1.one f2;exact ⟨rfl,rfl⟩
  | lrYes e02 e12 g2=>exact (zg.not f1 g2).elim
  | amBad z2 e02 e12 f2=>exfalso;rw [hm] at e02;omega
  | amNo z2 e02 e12 g2 f2=>exfalso;rw [hm] at e02;omega
  | amYes e02 e12 g2 f2=>exfalso;rw [hm] at e02;omega
 | lrYes e01 e11 g1=>cases k with
  | none_ e02=>exfalso;omega
  | align e02 e12=>exfalso;omega
  | scBad z2 e02 e12 f2=>exfalso;omega
  | scNo e02 e12 g2 n2=>exfalso;omega
  | scYes e02 e12 g2 n2=>exfalso;omega
  | lrBad z2 e02 e12 f2=>exact (zg.not f2 g1).elim
  | lrYes e02 e12 g2=>exact ⟨rfl,rfl⟩
  | amBad z2 e02 e12 f2=>exfalso;rw [hm] at e02;omega
  | amNo z2 e02 e12 g2 f2=>exfalso;rw [hm] at e02;omega
  | amYes e02 e12 g2 f2=>exfalso;rw [hm] at e02;omega
 | amBad z1 e01 e11 f1=>cases k with
  | none_ e02=>exfalso;rw [hm] at e01;omega
  | align e02 e12=>exfalso;rw [hm] at e01;omega
  | scBad z2 e02 e12 f2=>exfalso;rw [hm] at e01;omega
  | scNo e02 e12 g2 n2=>exfalso;rw [hm] at e01;omega
  | scYes e02 e12 g2 n2=>exfalso;rw [hm] at e01;omega
  | lrBad z2 e02 e12 f2=>exfalso;rw [hm] at e01;omega
  | lrYes e02 e12 g2=>exfalso;rw [hm] at e01;omega
  | amBad z2 e02 e12 f2=>obtain rfl:=f1.one f2;exact ⟨rfl,rfl⟩
  | amNo z2 e02 e12 g2 f2=>exact (zg.not f1 g2).elim
  | amYes e02 e12 g2 f2=>exact (zg.not f1 g2).elim
 | amNo z1 e01 e11 g1 f1=>cases k with
  | none_ e02=>exfalso;rw [hm] at e01;omega
  | align e02 e12=>exfalso;rw [hm] at e01;omega
  | scBad z2 e02 e12 f2=>exfalso;rw [hm] at e01;omega
  | scNo e02 e12 g2 n2=>exfalso;rw [hm] at e01;omega
  | scYes e02 e12 g2 n2=>exfalso;rw [hm] at e01;omega
  | lrBad z2 e02 e12 f2=>exfalso;rw [hm] at e01;omega
  | lrYes e02 e12 g2=>exfalso;rw [hm] at e01;omega
  | amBad z2 e02 e12 f2=>exact (zg.not f2 g1).elim
  | amNo z2 e02 e12 g2 f2=>obtain rfl:=f1.one f2;exact ⟨rfl,rfl⟩
  | amYes e02 e12 g2 f2=>exact (zg.not f1 f2).elim
 | amYes e01 e11 g1 f1=>cases k with
  | none_ e02=>exfalso;rw [hm] at e01;omega
  | align e02 e12=>exfalso;rw [hm] at e01;omega
  | scBad z2 e02 e12 f2=>exfalso;rw [hm] at e01;omega
  | scNo e02 e12 g2 n2=>exfalso;rw [hm] at e01;omega
  | scYes e02 e12 g2 n2=>exfalso;rw [hm] at e01;omega
  | lrBad z2 e02 e12 f2=>exfalso;rw [hm] at e01;omega
  | lrYes e02 e12 g2=>exfalso;rw [hm] at e01;omega
  | amBad z2 e02 e12 f2=>exact (zg.not f2 g1).elim
  | amNo z2 e02 e12 g2 f2=>exact (zg.not f2 f1).elim
  | amYes e02 e12 g2 f2=>exact ⟨rfl,rfl⟩
def rx (xs:List Int) (r:Int):Int:=xs.getD r.toNat 0
def setX (xs:List Int) (r y:Int):List Int:=(xs.set r.toNat y).set 0 0
structure Regs (xs:List Int):Prop where
 len:xs.length=32
 bd:∀ k,0≤xs.getD k 0∧xs.getD k 0<18446744073709551616
 z:xs.getD 0 0=0
theorem Regs.rx (h:Regs xs) (r:Int):0≤rx xs r∧rx xs r<18446744073709551616:=h.bd _
theorem zHY (xs:List Int) (r k:Nat) (y:Int) (hr:r<xs.length):(xs.set r y).getD k 0=if r=k then y else xs.getD k 0:=by
 rw [zzd,List.getElem?_set]
 split
 ·simp [hr]
 ·rw [zzd]
theorem Regs.set (h:Regs xs) (r y:Int) (hr:0≤r∧r<32) (hy:0≤y∧y<18446744073709551616):Regs (setX xs r y):=by
 have hl:=h.len;refine ⟨by simp [setX,hl],fun k=>?_,?_⟩
 ·unfold setX;rw [zHY _ _ _ _ (by simp [hl]),zHY _ _ _ _ (by omega)]
  have:=h.bd k
  split
  ·omega
  ·split<;>omega
 ·unfold setX;rw [zHY _ _ _ _ (by simp [hl]),if_pos rfl]
theorem zHq (h:Regs xs) (y:Int):setX xs 0 y=xs:=by
 have hl:=h.len;refine List.ext_getElem? fun k=>?_
 have h0:=h.z;rw [zzd] at h0;unfold setX;rw [List.getElem?_set,List.getElem?_set];simp only [Int.toNat_zero,List.length_set];by_cases hk:0=k
 ·subst hk;simp only [if_true,hl];rw [zzg (by omega)] at h0 ⊢;simp at h0;simp [h0]
 ·rw [if_neg hk,if_neg hk]
theorem setX_pos (h:Regs xs) {r:Nat} (hr:0<r) (y:Int):setX xs r y=xs.set r y:=by
 have hl:=h.len;refine List.ext_getElem? fun k=>?_
 have h0:=h.z;rw [zzd] at h0;unfold setX;rw [List.getElem?_set];simp only [Int.toNat_natCast,List.length_set];by_cases hk:0=k
 ·subst hk;rw [if_pos rfl,if_pos (by omega),List.getElem?_set,if_neg (by omega)];rw [zzg (by omega)] at h0 ⊢;simp at h0;simp [h0]
 ·rw [if_neg hk]
def stV (pc:Int) (xs:List Int) (ha hn:Int):List Value:=(.int .u64 pc :: xs.map (Value.int .u64))++[.int .u64 ha,.int .i64 hn]
theorem zBY (pc:Int) (ha hn:Int) (h:xs.length=32):(stV pc xs ha hn).length=35:=by simp [stV,h]
theorem stV_x (pc:Int) (ha hn:Int) (h:xs.length=32) (k:Nat) (hk:k<32):(stV pc xs ha hn)[1+k]?=some (.int .u64 (xs.getD k 0)):=by
 unfold stV;rw [List.getElem?_append_left (by simp [h];omega),Nat.add_comm 1 k,List.getElem?_cons_succ,List.getElem?_map,zzd,zzg (by omega)]
 rfl
theorem stV_setX (pc:Int) (ha hn:Int) (h:xs.length=32) (k:Nat) (hk:k<32) (y:Int):(stV pc xs ha hn).set (1+k) (.int .u64 y)=stV pc (xs.set k y) ha hn:=by
 unfold stV;rw [List.set_append_left _ _ (by simp [h];omega),Nat.add_comm 1 k,List.set_cons_succ,List.map_set]
theorem zIn (pc:Int) (ha hn:Int) (h:xs.length=32):(stV pc xs ha hn)[33]?=some (.int .u64 ha)∧(stV pc xs ha hn)[34]?=some (.int .i64 hn):=by
 unfold stV
 constructor<;>rw [List.getElem?_append_right (by simp [h])]<;>simp [h]
theorem zFd (pc:Int) (ha hn a n:Int) (h:xs.length=32):((stV pc xs ha hn).set 33 (.int .u64 a)).set 34 (.int .i64 n)=stV pc xs a n:=by
 unfold stV;rw [List.set_append_right _ _ (by simp [h]),List.set_append_right _ _ (by simp [h])];simp [h]
structure StAt (w:World) (b:Nat) (pc:Int) (xs:List Int) (ha hn:Int):Prop where
 blk:w.heap[b]?=some (.cells (stV pc xs ha hn).toArray 47 (0,0))
 len:xs.length=32
section
variable {w w':World} {b:Nat} {pc ha hn:Int} {xs:List Int}
theorem StAt.lt (h:StAt w b pc xs ha hn):b<w.heap.size:=zG h.blk
theorem StAt.bl (h:StAt w b pc xs ha hn) (k:Bl w w'):StAt w' b pc xs ha hn:=⟨k.at_ h.blk,h.len⟩
theorem StAt.fr (h:StAt w b pc xs ha hn) (k:Fr U w w') (hn':¬ U b):StAt w' b pc xs ha hn:=⟨k.at_ h.blk hn',h.len⟩
theorem StAt.free (h:StAt w b pc xs ha hn) (i:Nat):w.frozen? ⟨b,i,none⟩=false:=by simp [World.frozen?,h.blk]
theorem StAt.pc_ (h:StAt w b pc xs ha hn):w.cell? ⟨b,0,none⟩=some (.int .u64 pc):=by
 rw [zzc w b _ _ _ (0,0) h.blk,List.getElem?_toArray];rfl
theorem StAt.x (h:StAt w b pc xs ha hn) (r:Nat) (hr:r<32):w.cell? ⟨b,1+r,none⟩=some (.int .u64 (xs.getD r 0)):=by
 rw [zzc w b _ _ _ (0,0) h.blk,List.getElem?_toArray,stV_x _ _ _ h.len r hr]
theorem StAt.hold (h:StAt w b pc xs ha hn):w.cell? ⟨b,33,none⟩=some (.int .u64 ha)∧w.cell? ⟨b,34,none⟩=some (.int .i64 hn):=by
 obtain ⟨h1,h2⟩:=zIn pc ha hn h.len
 constructor<;>rw [zzc w b _ _ _ (0,0) h.blk,List.getElem?_toArray]<;>assumption
theorem StAt.zCl (h:StAt w b pc xs ha hn) (p:Int):StAt (w.setCell ⟨b,0,none⟩ (.int .u64 p)) b p xs ha hn:=by
 refine ⟨?_,h.len⟩;rw [zzs w b 0 _ _ _ h.blk,List.setIfInBounds_toArray];rfl
theorem StAt.zFg (h:StAt w b pc xs ha hn) (r:Nat) (hr:r<32) (y:Int):StAt (w.setCell ⟨b,1+r,none⟩ (.int .u64 y)) b pc (xs.set r y) ha hn:=by
 refine ⟨?_,by simp [h.len]⟩;rw [zzs w b (1+r) _ _ _ h.blk,List.setIfInBounds_toArray,stV_setX _ _ _ h.len r hr]
theorem StAt.setHold (h:StAt w b pc xs ha hn) (a n:Int):StAt ((w.setCell ⟨b,33,none⟩ (.int .u64 a)).setCell ⟨b,34,none⟩ (.int .i64 n)) b pc xs a n:=by
 refine ⟨?_,h.len⟩;have h1:=zzs w b 33 _ _ (.int .u64 a) h.blk;rw [List.setIfInBounds_toArray] at h1;rw [zzs _ b 34 _ _ _ h1,List.setIfInBounds_toArray,zFd _ _ _ _ _ h.len]
end
theorem zEr (op:Int) (w:World):Calls prog 80 #[.int .i64 op] w fun e w'=>e=.returned (.bool (decide (5≤op∧op≤10)))∧w=w':=by
 by_cases h1:5≤op
 ·by_cases h2:op≤10
  ·rw [decide_eq_true ⟨h1,h2⟩];go_enter func80,ntmps80;go_wp2;go_ret;exact ⟨rfl,rfl⟩
  ·rw [zzf (fun e=>h2 e.2)];go_enter func80,ntmps80;go_wp2;go_ret;exact ⟨rfl,rfl⟩
 ·rw [zzf (fun e=>h1 e.1)];go_enter func80,ntmps80;go_wp2;go_ret;exact ⟨rfl,rfl⟩
theorem zGu (op:Int) (w:World):Calls prog 82 #[.int .i64 op] w fun e w'=>e=.returned (.bool (decide (11≤op∧op≤17)))∧w=w':=by
 by_cases h1:11≤op
 ·by_cases h2:op≤17
  ·rw [decide_eq_true ⟨h1,h2⟩];go_enter func82,ntmps82;go_wp2;go_ret;exact ⟨rfl,rfl⟩
  ·rw [zzf (fun e=>h2 e.2)];go_enter func82,ntmps82;go_wp2;go_ret;exact ⟨rfl,rfl⟩
 ·rw [zzf (fun e=>h1 e.1)];go_enter func82,ntmps82;go_wp2;go_ret;exact ⟨rfl,rfl⟩
theorem zGC (op:Int) (w:World):Calls prog 84 #[.int .i64 op] w fun e w'=>e=.returned (.bool (decide (18≤op∧op≤21)))∧w=w':=by
 by_cases h1:18≤op
 ·by_cases h2:op≤21
  ·rw [decide_eq_true ⟨h1,h2⟩];go_enter func84,ntmps84;go_wp2;go_ret;exact ⟨rfl,rfl⟩
  ·rw [zzf (fun e=>h2 e.2)];go_enter func84,ntmps84;go_wp2;go_ret;exact ⟨rfl,rfl⟩
 ·rw [zzf (fun e=>h1 e.1)];go_enter func84,ntmps84;go_wp2;go_ret;exact ⟨rfl,rfl⟩
def zCe (op:Int):Prop:=op=1∨(22≤op∧op≤30)∨(41≤op∧op≤44)
instance (op:Int):Decidable (zCe op):=by unfold zCe;exact inferInstance
theorem takesImm_any (op:Int) (w:World):Calls prog 133 #[.int .i64 op] w fun e w'=>e=.returned (.bool (decide (zCe op)))∧w=w':=by
 rcases (by omega:op=1∨(op≠1∧op<22)∨(22≤op∧op≤30)∨(30<op∧op<41)∨(41≤op∧op≤44)∨44<op) with h|⟨h,h'⟩|⟨h,h'⟩|⟨h,h'⟩|⟨h,h'⟩|h
 ·subst h;rw [show decide (zCe 1)=true from rfl];go_enter func133,ntmps133;go_wp2;go_ret;exact ⟨by first|rfl|exact zCn (by simp<;>omega),rfl⟩
 ·rw [show decide (zCe op)=false from zzf (by unfold zCe;omega)];have h1:=nin h;go_enter func133,ntmps133;go_wp2;go_ret;exact ⟨by first|rfl|exact zCn (by simp<;>omega),rfl⟩
 ·rw [show decide (zCe op)=true from decide_eq_true (by unfold zCe;omega)];have h1:=nin (show ¬ op=1 by omega);go_enter func133,ntmps133;go_wp2;go_ret;exact ⟨by first|rfl|exact zCn (by simp<;>omega),rfl⟩
 ·rw [show decide (zCe op)=false from zzf (by unfold zCe;omega)];have h1:=nin (show ¬ op=1 by omega);have h2:decide (op≤30)=false:=zzf (by omega);go_enter func133,ntmps133;go_wp2;go_ret;exact ⟨by first|rfl|exact zCn (by simp<;>omega),rfl⟩
 ·rw [show decide (zCe op)=true from decide_eq_true (by unfold zCe;omega)];have h1:=nin (show ¬ op=1 by omega);go_enter func133,ntmps133;go_wp2;go_ret;exact ⟨by first|rfl|exact zCn (by simp<;>omega),rfl⟩
 ·rw [show decide (zCe op)=false from zzf (by unfold zCe;omega)];have h1:=nin (show ¬ op=1 by omega);have h2:decide (op≤30)=false:=zzf (by omega);go_enter func133,ntmps133;go_wp2;go_ret;exact ⟨by first|rfl|exact zCn (by simp<;>omega),rfl⟩
def lwid (op:Int):Nat:=if op=11∨op=15 then 1 else if op=12∨op=16 then 2 else if op=13∨op=17 then 4 else 8
def swid (op:Int):Nat:=if op=18 then 1 else if op=19 then 2 else if op=20 then 4 else 8
theorem zEY (op:Int):lwid op=1∨lwid op=2∨lwid op=4∨lwid op=8:=by unfold lwid;split<;>(try split)<;>(try split)<;>simp
theorem zJe (op:Int):swid op=1∨swid op=2∨swid op=4∨swid op=8:=by unfold swid;split<;>(try split)<;>(try split)<;>simp
theorem loadBytes_any (op:Int) (w:World) (ho:11≤op∧op≤17):Calls prog 126 #[.int .i64 op] w fun e w'=>e=.returned (.int .i64 (lwid op:Int))∧w=w':=by
 rcases (by omega:op=11∨op=12∨op=13∨op=14∨op=15∨op=16∨op=17) with rfl|rfl|rfl|rfl|rfl|rfl|rfl;all_goals
  go_enter func126,ntmps126;go_wp2;go_ret;exact ⟨rfl,rfl⟩
theorem storeBytes_any (op:Int) (w:World) (ho:18≤op∧op≤21):Calls prog 131 #[.int .i64 op] w fun e w'=>e=.returned (.int .i64 (swid op:Int))∧w=w':=by
 rcases (by omega:op=18∨op=19∨op=20∨op=21) with rfl|rfl|rfl|rfl;all_goals
  go_enter func131,ntmps131;go_wp2;go_ret;exact ⟨rfl,rfl⟩
theorem zGD (k x:Int) (w:World):Calls prog 128 #[zt k x] w fun e w'=>e=.returned (zAD 4 k x)∧Bl w w':=by
 unfold zt zAD;go_enter func128,ntmps128;go_wp2_with fail;have hh:=(Bl.new w (.cells #[.int .i64 k,.int .u64 x] 31)).alloc (.cells #[.int .i64 4,.int .i64 k,.int .u64 x] 33);have hg:((w.alloc (.cells #[.int .i64 k,.int .u64 x] 31)).alloc (.cells #[.int .i64 4,.int .i64 k,.int .u64 x] 33)).heap[w.heap.size+1]?=some (.cells #[.int .i64 4,.int .i64 k,.int .u64 x] 33 (0,0)):=by
  have:=zzn (w.alloc (.cells #[.int .i64 k,.int .u64 x] 31)) (.cells #[.int .i64 4,.int .i64 k,.int .u64 x] 33)
  rwa [show (w.alloc (.cells #[.int .i64 k,.int .u64 x] 31)).heap.size=w.heap.size+1 by simp] at this
 refine zzb (zc33r rfl _ _ (w.heap.size+1) rfl hg rfl) rfl ?_;exact ⟨rfl,hh⟩
theorem zFu {pc ha:Int} (h:StAt w b pc xs ha hn) (hR:Regs xs) (r:Int) (hr:0≤r∧r<32) (y:Int):
  Calls prog 77 #[zB b,.int .i64 r,.int .u64 y] w fun e w'=>e=.returned (.tuple #[])∧StAt w' b pc (setX xs r y) ha hn∧Fr (only b) w w'∧w'.heap.size=w.heap.size:=by
 obtain ⟨r,rfl⟩:=zze hr.1;have hr':r<32:=by omega
 have c0:=h.x r hr';have f0:=h.free (1+r);have H:=hid h;clear h;have HR:=hid hR;clear hR;unfold zB;by_cases h0:r=0
 ·subst h0;go_enter func77,ntmps77;go_wp2_with fail;refine bodyPost_end (results_none rfl _ _ _) rfl ?_;exact ⟨rfl,by rw [show ((0:Nat):Int)=0 from rfl,zHq HR.out];exact H.out,Fr.zP (Bl.refl _),rfl⟩
 ·have h1:((r:Int)==0)=false:=by simp;omega
  go_enter func77,ntmps77;go_wp2_with fail;refine bodyPost_end (results_none rfl _ _ _) rfl ?_;exact ⟨rfl,by rw [setX_pos HR.out (by omega)];exact H.out.zFg r hr' y,Fr.set (S:=only b) (p:=⟨b,1+r,none⟩) rfl _,by simp [World.setCell]⟩
theorem zeroU (w:World):(zeroValue 29).run prog w=.ok (.int .u64 0) w:=by kernel_rfl
variable {sm:Value}
theorem SMV.look (h:SMV S w sm n c st) {p:Nat} (hp:p<2^64):
  ∃ v ok,(Instr.lookup 99 sm (.int .u64 (p:Int)) true).run prog w=.ok (.tuple #[.int .u64 v,.bool ok]) w∧((ok=true∧v=st p)∨(ok=false∧c=st p)):=by
 rcases h with ⟨rfl,h1⟩|⟨B,D,rfl,_,hown,g,hg1,hg2,hg3⟩
 ·exact ⟨0,false,Maps.look_nil true zDZ underlying99 (zeroU w) (zCy hp),.inr ⟨rfl,(h1 p hp).symm⟩⟩
 ·have hz:plainElem (H:=Nat) prog 29 (.int .u64 0)=some (.lit (.int .u64 0),[]):=plainElem_int underlying29 (by decide);obtain ⟨v,ps,hrun,hv⟩:=hown.look_ok zDZ underlying99 (zeroU w) hz (zCy hp);obtain ⟨a,rfl,e,_⟩:=plainElem_int_inv underlying29 hv;refine ⟨a,_,hrun,?_⟩;rw [hg1 p hp];rcases hgp:g p with _|y
  ·exact .inr ⟨rfl,by rw [hg3 p hp,hgp];rfl⟩
  ·refine .inl ⟨rfl,?_⟩;rw [hg2 p y hp hgp] at e;injection e with e;injection e with e;injection e with _ e;rw [hg3 p hp,hgp,← e];rfl
variable {f:Nat→Option Nat} {Y:Rest}
theorem pstamp_any (h:zW Y S w sb n f k M st) (p:Nat) (hp:p<2^64):
  Calls prog 168 #[.pointer (some ⟨sb,1,none⟩),.int .u64 (p:Int)] w fun e w'=>e=.returned (.int .u64 (st p))∧w=w':=by
 obtain ⟨pm,sm,c,l,h⟩:=h;obtain ⟨c0,c1,c2,c3⟩:=h.cell;obtain ⟨v,ok,hlook,hv⟩:=h.stamps.look hp;clear h;rcases hv with ⟨rfl,hv⟩|⟨rfl,hv⟩
 ·have HV:=hid hv;clear hv;go_enter func168,ntmps168;go_wp2;go_ret;exact ⟨by rw [← HV.out];rfl,rfl⟩
 ·have HV:=hid hv;clear hv;go_enter func168,ntmps168;go_wp2;go_ret;exact ⟨by rw [← HV.out];rfl,rfl⟩
theorem zGs (h:MS T w sb n L M st mo ba en) (p:Nat) (hp:p<2^64):
  Calls prog 148 #[zB sb,.int .u64 (p:Int)] w fun e w'=>e=.returned (.int .u64 (st p))∧w=w':=by
 obtain ⟨rg,f,k0,h3,_,_⟩:=h.ex;have cr:=pstamp_any h3 p hp;have CR:=hid cr;clear cr h3 h;unfold zB;go_enter func148,ntmps148;go_wp2_with fail;refine CR.out.mono ?_;rintro e w1 ⟨rfl,rfl⟩;go_wp2_with fail;go_ret;exact ⟨rfl,rfl⟩
theorem zGJ {y:Int} (h:So 0 274877906944 L) (hc:Can L p y):y<274877906944:=by
 obtain ⟨q,⟨r,hr,_,h2,_⟩,_⟩:=hc
 have:=h.2 r hr
 omega
theorem lay_ne {a:Nat} {cs:List Int} {x:Nat} (h:lay M a cs x≠M x):a≤x∧x<a+cs.length:=by
 rcases Nat.lt_or_ge x a with h1|h1
 ·exact absurd (zGA _ _ _ _ (.inl h1)) h
 ·rcases Nat.lt_or_ge x (a+cs.length) with h2|h2
  ·exact ⟨h1,h2⟩
  ·exact absurd (zGA _ _ _ _ (.inr h2)) h
def Cans (L:List Rg) (p a:Int) (n:Nat):Prop:=∀ y,a≤y→y<a+n→Can L p y
def zCv (L:List Rg) (p a b x:Int):Prop:=a≤x∧x<b∧¬ Can L p x∧∀ y,a≤y→y<x→Can L p y
theorem zCv.one {b x y:Int} (h:zCv L p a b x) (k:zCv L p a b y):x=y:=by
 obtain ⟨h1,h2,h3,h4⟩:=h;obtain ⟨k1,k2,k3,k4⟩:=k;rcases Int.lt_trichotomy x y with e|e|e
 ·exact absurd (k4 x h1 e) h3
 ·exact e
 ·exact absurd (h4 y k1 e) k3
theorem zCv.not {x:Int} (h:zCv L p a (a+n) x):¬ Cans L p a n:=fun k=>h.2.2.1 (k x h.1 h.2.1)
def zEQ (L:List Rg) (M:Nat→Int) (a:Nat) (y k x:Int):Prop:=(k=3∧y=0∧(a:Int)≤x∧x<a+(2:Nat)∧¬ Can L 4 x∧∀ y,(a:Int)≤y→y<x→Can L 4 y)∨(k=0∧x=0∧y=zb M a 2∧∀ z,(a:Int)≤z→z<a+(2:Nat)→Can L 4 z)
inductive zAx (L:List Rg) (M:Nat→Int) (a:Nat):Int→Int→Int→Prop
 | odd:a%2=1→zAx L M a 0 3 a
 | bad1 (x:Int):a%2=0→zCv L 4 a (a+(2:Nat)) x→zAx L M a 0 3 x
 | short:a%2=0→Cans L 4 a 2→zb M a 2%4≠3→zAx L M a (zb M a 2) 0 0
 | bad2 (x:Int):a%2=0→Cans L 4 a 2→zb M a 2%4=3→zCv L 4 ((a+2:Nat):Int) (((a+2:Nat):Int)+(2:Nat)) x→zAx L M a 0 3 x
 | long:a%2=0→Cans L 4 a 2→Cans L 4 ((a+2:Nat):Int) 2→zb M a 2%4=3→zAx L M a (zb M a 4) 0 0
def zIU (w:World) (L:List Rg) (M:Nat→Int) (a:Nat) (e:Ending) (w':World):Prop:=∃ y k x,e=.returned (.tuple #[.int .u32 y,zt k x])∧zAx L M a y k x∧Bl w w'
theorem zAx.one {a:Nat} {y k x y' x':Int} (h:zAx L M a y k x) (g:zAx L M a y' k' x'):y=y'∧k=k'∧x=x':=by
 cases h with
 | odd h1 =>
  cases g with
  | odd=>exact ⟨rfl,rfl,rfl⟩
  | bad1 _ g1 _=>omega
  | short g1=>omega
  | bad2 _ g1=>omega
  | long g1=>omega
 | bad1 _ h1 h2 =>
  cases g with
  | odd=>omega
  | bad1 _ g1 g2=>exact ⟨rfl,rfl,h2.one g2⟩
  | short _ g2=>exact absurd g2 h2.not
  | bad2 _ _ g2=>exact absurd g2 h2.not
  | long _ g2=>exact absurd g2 h2.not
 | short h1 h2 h3 =>
  cases g with
  | odd=>omega
  | bad1 _ g1 g2=>exact absurd h2 g2.not
  | short _ g2=>exact ⟨rfl,rfl,rfl⟩
  | bad2 _ _ g2 g3=>exact absurd g3 h3
  | long _ g2 _ g3=>exact absurd g3 h3
 | bad2 _ h1 h2 h3 h4 =>
  cases g with
  | odd=>omega
  | bad1 _ g1 g2=>exact absurd h2 g2.not
  | short _ g2 g3=>exact absurd h3 g3
  | bad2 _ _ g2 g3 g4=>exact ⟨rfl,rfl,h4.one g4⟩
  | long _ g2 g4 g3=>exact absurd g4 h4.not
 | long h1 h2 h4 h3 =>
  cases g with
  | odd=>omega
  | bad1 _ g1 g2=>exact absurd h2 g2.not
  | short _ g2 g3=>exact absurd h3 g3
  | bad2 _ _ g2 g3 g4=>exact absurd h4 g4.not
  | long _ g2 g4 g3=>exact ⟨rfl,rfl,rfl⟩
theorem zDq (M:Nat→Int) (a:Nat):zb M a 2=M a+M (a+1)*256:=by simp [zb,getS,zf,List.range_succ]
theorem zIb (M:Nat→Int) (a:Nat):zb M a 4=M a+M (a+1)*256+M (a+2)*65536+M (a+3)*16777216:=by simp [zb,getS,zf,List.range_succ]
theorem zGX (h:∀ x,0≤M x∧M x≤255) (a:Nat):0≤zb M a 2∧zb M a 2≤65535:=by
 have h1:=h a;have h2:=h (a+1);rw [zDq];omega
theorem num42 (a:Nat):zb M a 4=zb M a 2+zb M (a+2) 2*65536:=by
 rw [zIb,zDq,zDq,show a+2+1=a+3 from rfl];omega
theorem and3 {y:Int} (h0:0≤y) (h1:y≤65535):bits .and .u32 y 3=y%4:=by
 obtain ⟨n,rfl⟩:=zze h0;have h:=u32_and_nat n 3 (by omega) (by decide);rw [show ((3:Nat):Int)=3 from rfl] at h;rw [h,show (3:Nat)=2^2 - 1 from rfl,Nat.and_two_pow_sub_one_eq_mod];omega
theorem or16 {u v:Int} (h0:0≤u) (h1:u≤65535) (h2:0≤v) (h3:v≤65535):bits .or .u32 (u*65536%4294967296) v=v+u*65536:=by
 obtain ⟨p,rfl⟩:=zze h0;obtain ⟨q,rfl⟩:=zze h2;have h:=u32_or_nat (p*65536) q (by omega) (by omega);rw [nat_join 16 (p*65536) q (by show p*65536%65536=0;omega) (by show q<65536;omega)] at h;rw [show (p:Int)*65536%4294967296=((p*65536:Nat):Int) by omega,h];omega
section
variable {L:List Rg} {M:Nat→Int} {a:Nat} {y k x y2 k2 x2:Int}
theorem fetch_bad1 (ho:(a:Int)%2=0) (h:zEQ L M a y k x) (hk:¬ k=0):zAx L M a y k x:=by
 rcases h with ⟨rfl,rfl,h⟩|⟨h,_⟩
 ·exact .bad1 x (by omega) h
 ·exact absurd h hk
theorem fetch_short (hb:∀ x,0≤M x∧M x≤255) (ho:(a:Int)%2=0) (h:zEQ L M a y 0 x) (h3:¬ bits .and .u32 y 3=3):zAx L M a y 0 x:=by
 rcases h with ⟨h,_⟩|⟨_,rfl,rfl,h⟩
 ·cases h
 ·have:=zGX hb a
  rw [and3 (by omega) (by omega)] at h3;exact .short (by omega) h h3
theorem zJM (hb:∀ x,0≤M x∧M x≤255) (hs:So 0 274877906944 L) (h:zEQ L M a y 0 x) (h3:bits .and .u32 y 3=3):Cans L 4 a 2∧zb M a 2%4=3∧(a+2)%18446744073709551616=a+2∧y=zb M a 2:=by
 rcases h with ⟨h,_⟩|⟨_,rfl,rfl,h⟩
 ·cases h
 ·have:=zGX hb a
  rw [and3 (by omega) (by omega)] at h3
  have:=zGJ hs (h (a+1) (by omega) (by omega))
  exact ⟨h,h3,by omega,rfl⟩
theorem fetch_bad2 (hb:∀ x,0≤M x∧M x≤255) (hs:So 0 274877906944 L) (ho:(a:Int)%2=0) (h:zEQ L M a y 0 x) (h3:bits .and .u32 y 3=3) (h2:zEQ L M ((a+2)%18446744073709551616) y2 k2 x2) (hk:¬ k2=0):zAx L M a 0 k2 x2:=by
 obtain ⟨g1,g2,g3,_⟩:=zJM hb hs h h3;rw [g3] at h2;rcases h2 with ⟨rfl,rfl,h⟩|⟨h,_⟩
 ·exact .bad2 x2 (by omega) g1 g2 h
 ·exact absurd h hk
theorem fetch_long (hb:∀ x,0≤M x∧M x≤255) (hs:So 0 274877906944 L) (ho:(a:Int)%2=0) (h:zEQ L M a y 0 x) (h3:bits .and .u32 y 3=3) (h2:zEQ L M ((a+2)%18446744073709551616) y2 0 x2):zAx L M a (bits .or .u32 (y2*65536%4294967296) y) 0 0:=by
 obtain ⟨g1,g2,g3,rfl⟩:=zJM hb hs h h3;rw [g3] at h2;rcases h2 with ⟨h,_⟩|⟨_,_,rfl,h⟩
 ·cases h
 ·have e1:=zGX hb a;have e2:=zGX hb (a+2);rw [or16 (by omega) (by omega) (by omega) (by omega),← num42];exact .long (by omega) g1 h g2
end
theorem zKT (h:MS T w sb n0 L M st mo ba en) (a:Nat) (ha:a<2^64):
  Calls prog 149 #[zB sb,.int .u64 (a:Int)] w fun e w'=>∃ y k x,e=.returned (.tuple #[.int .u32 y,zt k x])∧zEQ L M a y k x∧Bl w w':=by
 have cf:=zGE (h.bl (Bl.new w (.cells #[.int .i64 0,.int .u64 0] 31))) 3 a 2 4 (by omega) (by omega) (by decide);have cn:=fun W (hW:Bl w W)=>zAX (h.bl hW) a 2 ha (by omega) (by omega)
 have hnb0:=zGX h.by_ a;unfold zEQ;have HSO:=hid h.so;have CF:=hid cf;clear cf h;have CN:=hid cn;clear cn;generalize zb M a 2=N at *;obtain ⟨n0',n1'⟩:=hnb0;unfold zB at *;go_enter func149,ntmps149;go_wp2_with fail;refine CF.out.mono ?_;rintro e w1 ⟨k,x,rfl,hh,kk⟩;have hb:=new2 w w1 _ _ _ kk;have k1:=(Bl.new w (.cells #[.int .i64 0,.int .u64 0] 31)).trans kk;clear CF kk;have HB:=hid hb;clear hb;have K1:=hid k1;clear k1;unfold zt;rcases hh with ⟨hk,hh⟩|⟨hk,hx,hh⟩
 ·subst hk;have WD:=hid hh;clear hh;go_wp2_with fail;have hb2:=(Bl.new w1 (.cells #[.int .i64 3,.int .u64 x] 31)).at_ HB.out;obtain ⟨d0,d1⟩:=zK hb2;obtain ⟨d2,d3⟩:=zK (zzn w1 (.cells #[.int .i64 3,.int .u64 x] 31));have f0:∀ i,(w1.alloc (.cells #[.int .i64 3,.int .u64 x] 31)).frozen? ⟨w.heap.size,i,none⟩=false:=fun i=>by simp [World.frozen?,hb2]
  have f00:=f0 0;have f01:=f0 1;have HB2:=hid hb2;clear hb2;have K2:=hid (K1.out.alloc (.cells #[.int .i64 3,.int .u64 x] 31));clear HB K1 f0 CN;generalize w1.alloc (.cells #[.int .i64 3,.int .u64 x] 31)=W at *;go_region
  all_goals (
   (try go_wp2_with fail)
   refine zzb (zt31 rfl _ _ w.heap.size rfl (set2 _ _ HB2.out) rfl) rfl ?_;exact ⟨0,3,x,rfl,.inl ⟨rfl,rfl,WD.out⟩,(K2.out.drew.set (zzr _) _).set (zzr _) _⟩)
 ·subst hk hx;have HH:=hid hh;clear hh;go_wp2_with fail;refine (CN.out _ (K1.out.alloc _)).mono ?_;rintro e w2 ⟨rfl,k2⟩;have hb2:=k2.at_ ((Bl.new w1 (.cells #[.int .i64 0,.int .u64 0] 31)).at_ HB.out);obtain ⟨d0,d1⟩:=zK hb2;have f0:∀ i,w2.frozen? ⟨w.heap.size,i,none⟩=false:=fun i=>by simp [World.frozen?,hb2]
  have f00:=f0 0;have f01:=f0 1;have HB2:=hid hb2;clear hb2;have K2:=hid ((K1.out.alloc (.cells #[.int .i64 0,.int .u64 0] 31)).trans k2);clear HB K1 f0 CN k2;go_wp2_with fail;refine zzb (zt31 rfl _ _ w.heap.size rfl (set2 _ _ HB2.out) rfl) rfl ?_;exact ⟨_,0,0,rfl,.inr ⟨rfl,rfl,rfl,HH.out⟩,(K2.out.set (zzr _) _).set (zzr _) _⟩
theorem fetch_is (h:MS T w sb n0 L M st mo ba en) (a:Nat) (ha:a<2^64):
  Calls prog 122 #[zB sb,.int .u64 (a:Int)] w (zIU w L M a):=by
 have HBY:=hid h.by_;have HSO:=hid h.so;unfold zB;by_cases hodd:(a:Int)%2=0
 ·have t1:((a:Int)%2 != 0)=false:=by simp [hodd]
  have c1:=zKT (h.bl (Bl.new w (.cells #[.int .i64 0,.int .u64 0] 31))) a ha;have c2:=fun W (hW:Bl w W)=>zKT (h.bl hW) ((a+2)%18446744073709551616) (by omega)
  have C1:=hid c1;clear c1;have C2:=hid c2;clear c2 h;have HOD:=hid hodd;clear hodd;unfold zB at *;go_enter func122,ntmps122;go_wp2_with fail;refine C1.out.mono ?_;rintro e w1 ⟨y,k,x,rfl,hi,kk⟩;have HI:=hid hi;clear hi;have hb:=new2 w w1 _ _ _ kk;have k1:=(Bl.new w (.cells #[.int .i64 0,.int .u64 0] 31)).trans kk;clear C1 kk;have hb2:=(Bl.new w1 (.cells #[.int .i64 k,.int .u64 x] 31)).at_ hb;have hb3:=zzn w1 (.cells #[.int .i64 k,.int .u64 x] 31);have K2:=hid (k1.alloc (.cells #[.int .i64 k,.int .u64 x] 31));obtain ⟨d0,d1⟩:=zK hb2;obtain ⟨d2,d3⟩:=zK hb3;have fz:∀ i,(w1.alloc (.cells #[.int .i64 k,.int .u64 x] 31)).frozen? ⟨w.heap.size,i,none⟩=false:=fun i=>by simp [World.frozen?,hb2]
  have f00:=fz 0;have f01:=fz 1;have HB2:=hid hb2;have HB3:=hid hb3;have hlt1:w.heap.size<w1.heap.size:=zG hb;clear hb k1 hb2 hb3 fz;unfold zt;by_cases hk:k=0
  ·subst hk;by_cases hb:bits .and .u32 y 3=3
   ·have tb:(bits .and .u32 y 3 != 3)=false:=by simp [hb]
    have e2:IntKind.u64.wrap ((a:Int)+2)=(((a+2)%18446744073709551616:Nat):Int):=by rw [IntKind.wrap_u64];omega
    have HBB:=hid hb;clear hb;have E2:=hid e2;clear e2;go_wp2_with fail;rw [E2.out];refine (C2.out _ K2.out).mono ?_;rintro e w2 ⟨y2,k2,x2,rfl,hi2,kk2⟩;have HI2:=hid hi2;clear hi2;have hb4:=kk2.at_ HB2.out;have hb5:=kk2.at_ HB3.out;have K4:=hid (K2.out.trans kk2);clear d0 d1 d2 d3 f00 f01 C2 kk2;obtain ⟨d0,d1⟩:=zK hb4;obtain ⟨d2,d3⟩:=zK hb5;have fz:∀ i,w2.frozen? ⟨w.heap.size,i,none⟩=false:=fun i=>by simp [World.frozen?,hb4]
    have fy:∀ i,w2.frozen? ⟨w1.heap.size,i,none⟩=false:=fun i=>by simp [World.frozen?,hb5]
    have f10:=fy 0;have f11:=fy 1;have hne:w.heap.size≠w1.heap.size:=by omega
    have hb6:((w2.setCell ⟨w1.heap.size,0,none⟩ (.int .i64 k2)).setCell ⟨w1.heap.size,1,none⟩ (.int .u64 x2)).heap[w.heap.size]?=some (.cells #[.int .i64 0,.int .u64 0] 31 (0,0)):=by
     rw [zzl _ _ _ _ hne,zzl _ _ _ _ hne];exact hb4
    have hb7:=set2 (.int .i64 k2) (.int .u64 x2) hb5;have hsz:w.heap.size≤w1.heap.size:=by omega
    have K7:=hid ((K4.out.set (p:=⟨w1.heap.size,0,none⟩) hsz (.int .i64 k2)).set (p:=⟨w1.heap.size,1,none⟩) hsz (.int .u64 x2));have HB6:=hid hb6;have HB7:=hid hb7;clear hb6 hb7 hb4 hb5 fz fy;unfold zt;go_upto_region 7 with (fail);clear d0 d1 d2 d3 f10 f11;generalize (w2.setCell ⟨w1.heap.size,0,none⟩ (.int .i64 k2)).setCell ⟨w1.heap.size,1,none⟩ (.int .u64 x2)=W at *;obtain ⟨d0,d1⟩:=zK HB6.out;obtain ⟨d2,d3⟩:=zK HB7.out;have fz:∀ i,W.frozen? ⟨w.heap.size,i,none⟩=false:=fun i=>by simp [World.frozen?,HB6.out]
    have f00:=fz 0;have f01:=fz 1;clear fz;by_cases hk2:k2=0
    ·subst hk2;go_wp2_with fail;refine zzb (zt31 rfl _ _ w.heap.size rfl (set2 _ _ HB6.out) rfl) rfl ?_;exact ⟨_,0,0,rfl,fetch_long HBY.out HSO.out HOD.out HI.out HBB.out HI2.out,(K7.out.set (zzr _) _).set (zzr _) _⟩
    ·have tk:(k2 != 0)=true:=by simp [hk2]
     have HK2:=hid hk2;clear hk2;go_wp2_with fail;go_region
     all_goals (
      (try go_wp2_with fail)
      refine zzb (zt31 rfl _ _ w.heap.size rfl (set2 _ _ HB6.out) rfl) rfl ?_;exact ⟨0,k2,x2,rfl,fetch_bad2 HBY.out HSO.out HOD.out HI.out HBB.out HI2.out HK2.out,(K7.out.drew.set (zzr _) _).set (zzr _) _⟩)
   ·have tb:(bits .and .u32 y 3 != 3)=true:=by simp [hb]
    have HBB:=hid hb;clear hb C2;go_wp2_with fail;generalize w1.alloc (.cells #[.int .i64 0,.int .u64 x] 31)=W at *;go_region
    all_goals (
     (try go_wp2_with fail)
     refine zzb (zt31 rfl _ _ w.heap.size rfl (set2 _ _ HB2.out) rfl) rfl ?_;exact ⟨y,0,x,rfl,fetch_short HBY.out HOD.out HI.out HBB.out,(K2.out.drew.set (zzr _) _).set (zzr _) _⟩)
  ·have tk:(k != 0)=true:=by simp [hk]
   have HK:=hid hk;clear hk C2;go_wp2_with fail;generalize w1.alloc (.cells #[.int .i64 k,.int .u64 x] 31)=W at *;go_region
   all_goals (
    (try go_wp2_with fail)
    refine zzb (zt31 rfl _ _ w.heap.size rfl (set2 _ _ HB2.out) rfl) rfl ?_;exact ⟨y,k,x,rfl,fetch_bad1 HOD.out HI.out HK.out,(K2.out.drew.set (zzr _) _).set (zzr _) _⟩)
 ·have t1:((a:Int)%2 != 0)=true:=by simp [hodd]
  clear h;go_enter func122,ntmps122;go_wp2_with fail;refine zzb (zt31 rfl _ _ w.heap.size rfl (zzn w _) rfl) rfl ?_;exact ⟨0,3,a,rfl,.odd (by omega),Bl.new _ _⟩
end Go.Proofs.YtlhpodholnfppaaGreatDoor
namespace Go.Proofs.YtlhpodholnfppaaGreatDoor.Td
open Go.Proofs.Tryz
open Go.RowKit
structure Kp (o:Option Nat) (w w':World):Prop where
 os:w'.os=w.os
 tape:w'.tape=w.tape
 output:w'.output=w.output
 size:w.heap.size≤w'.heap.size
 frozen:∀ a,w'.frozen? a=w.frozen? a
 block:∀ k,k<w.heap.size→some k≠o→w'.heap[k]?=w.heap[k]?
theorem Kp.refl (o:Option Nat) (w:World):Kp o w w:=⟨rfl,rfl,rfl,zzr _,fun _=>rfl,fun _ _ _=>rfl⟩
theorem Kp.trans {o:Option Nat} {a b c:World} (h:Kp o a b) (k:Kp o b c):Kp o a c:=
  ⟨k.os.trans h.os,k.tape.trans h.tape,k.output.trans h.output,Nat.le_trans h.size k.size,fun x=>(k.frozen x).trans (h.frozen x),
   fun i hi hn=>(k.block i (Nat.lt_of_lt_of_le hi h.size) hn).trans (h.block i hi hn)⟩
variable {w w':World}
theorem Kp.drew {o:Option Nat} {a:World} (h:Kp o a w):Kp o a w.drew:=⟨h.os,h.tape,h.output,h.size,h.frozen,h.block⟩
theorem Kp.drewN {o:Option Nat} {a:World} (h:Kp o a w) (n:Nat):Kp o a (w.drewN n):=⟨h.os,h.tape,h.output,h.size,h.frozen,h.block⟩
theorem Kp.alloc {o:Option Nat} {a:World} (h:Kp o a w) (c:Array Value) (t:TypeId):Kp o a (w.alloc (.cells c t)):=
 h.trans ⟨rfl,rfl,rfl,by simp,fun x=>frozen?_alloc_cells _ _ _ x,fun k hk _=>Below.heap_alloc _ _ _ hk⟩
theorem Kp.setCell {o:Option Nat} {a:World} (h:Kp o a w) {p:Addr} (hp:a.heap.size ≤ p.block ∨ some p.block = o) (u:Value):Kp o a (w.setCell p u):=
  ⟨h.os,h.tape,h.output,by simpa [World.setCell] using h.size,fun x=>(World.frozen?_setCell _ _ _ _).trans (h.frozen x),
   fun k hk hn=>(zzl _ _ _ _ (fun e=>by subst e;exact hp.elim (fun hp=>by omega) (hn ·))).trans (h.block k hk hn)⟩
theorem Kp.drop {o:Option Nat} {a b c:World} (h:Kp none a b) (k:Kp o b c) (ho:∀ i,o = some i → a.heap.size ≤ i):Kp none a c:=
  ⟨k.os.trans h.os,k.tape.trans h.tape,k.output.trans h.output,Nat.le_trans h.size k.size,fun x=>(k.frozen x).trans (h.frozen x),
   fun i hi _=>(k.block i (Nat.lt_of_lt_of_le hi h.size) (fun e=>by have:=ho i e.symm;omega)).trans (h.block i hi (by simp))⟩
variable {b k:Nat}
theorem Kp.keeps {o:Option Nat} (h:Kp o w w') {b:Obj} (hb:w.heap[k]?=some b) (hn:some k≠o):w'.heap[k]?=some b:=by
 have hlt:k<w.heap.size:=by
  rcases Nat.lt_or_ge k w.heap.size with h|h
  ·exact h
  ·rw [Array.getElem?_eq_none h] at hb;cases hb
 rw [h.block k hlt hn];exact hb
theorem lt_of_at {b:Obj} (hb:w.heap[k]?=some b):k<w.heap.size:=by
 rcases Nat.lt_or_ge k w.heap.size with h|h
 ·exact h
 ·rw [Array.getElem?_eq_none h] at hb;cases hb
def Has (w:World) (b:Nat) (t:TypeId) (cs:Array Value):Prop:=w.heap[b]?=some (.cells cs t (0,0))
variable {cs:Array Value} {t:TypeId}
theorem Has.lt (h:Has w b t cs):b<w.heap.size:=lt_of_at h
theorem Has.cell (h:Has w b t cs) (i:Nat):w.cell? ⟨b,i,none⟩=cs[i]?:=by
 have h':w.heap[b]?=some (.cells cs t (0,0)):=h;simp [World.cell?,h']
theorem Has.free (h:Has w b t cs) (i:Nat):w.frozen? ⟨b,i,none⟩=false:=by
 have h':w.heap[b]?=some (.cells cs t (0,0)):=h;simp [World.frozen?,h']
theorem Has.kp {o:Option Nat} (h:Has w b t cs) (k:Kp o w w') (hn:some b≠o):Has w' b t cs:=k.keeps h hn
theorem Has.drew (h:Has w b t cs):Has w.drew b t cs:=h
theorem Has.new (w:World) (c:Array Value) (t:TypeId):Has (w.alloc (.cells c t)) w.heap.size t c:=(MapKept.heap_alloc w _).1
theorem Has.alloc (h:Has w b t cs) (o:Obj):Has (w.alloc o) b t cs:=(Below.heap_alloc _ _ _ h.lt).trans h
theorem Has.other (h:Has w b t cs) {p:Addr} (hp:b≠p.block) (u:Value):Has (w.setCell p u) b t cs:=(zzl _ _ _ _ hp).trans h
theorem Has.set (h:Has w b t cs) (i:Nat) (u:Value):Has (w.setCell ⟨b,i,none⟩ u) b t (cs.setIfInBounds i u):=by
 have h':w.heap[b]?=some (.cells cs t (0,0)):=h;show (w.setCell ⟨b,i,none⟩ u).heap[b]?=_;simp only [World.setCell,Array.getElem?_modify,if_pos,h',Option.map_some];simp
variable {fn:Func}
theorem zAA {p:Tmp} (h:fn.results=#[.cell p 38]) (tmps:Array Value) (w:World) (g:Nat) (hp:tmps.getD p undef=.pointer (some ⟨g,0,none⟩)) (hg:w.heap[g]?=some (.cells cs 38 (0,0))) (hs:cs.size=7):(results fn tmps).run prog w=.ok (.agg cs) w:=results_cell_row h tmps w g 38 cs (0,0) _ hp hg underlying38 rfl (by rw [hs];kernel_rfl)
theorem zAk {p:Tmp} (h:fn.results=#[.cell p 33]) (tmps:Array Value) (w:World) (g:Nat) (hp:tmps.getD p undef=.pointer (some ⟨g,0,none⟩)) (hg:w.heap[g]?=some (.cells cs 33 (0,0))) (hs:cs.size=3):(results fn tmps).run prog w=.ok (.agg cs) w:=results_cell_row h tmps w g 33 cs (0,0) _ hp hg underlying33 rfl (by rw [hs];kernel_rfl)
variable {a:Int}
theorem zm {k:IntKind} {b:Int} (h:a=b):Ending.returned (.int k a)=.returned (.int k b):=by rw [h]
theorem zCn {a b:Bool} (h:a=b):Ending.returned (.bool a)=.returned (.bool b):=by rw [h]
def zV (x b:Int):Int:=if 1≤b∧b≤64 then sx x b.toNat else x
theorem zJi (x:Int) (n:Nat) (w:World) (h1:(1:Int)≤n) (h2:(n:Int)≤64) :
  Calls prog 129 #[.int .u64 x,.int .i64 n] w fun e w'=>e=.returned (.int .u64 (sx x n))∧w=w':=by
 have hs:=hid (shifts x n (by omega) (by omega));go_enter func129,ntmps129;go_wp2;go_ret;exact ⟨zm (by rw [hs.out]),rfl⟩
def pc (s a m:Nat):Nat:=s/2^a%2^m
theorem zF (s a m:Nat):pc s a m<2^m:=Nat.mod_lt _ (Nat.two_pow_pos m)
theorem pc_le (s a m:Nat) (hs:s<4294967296):pc s a m<4294967296:=Nat.lt_of_le_of_lt (Nat.le_trans (Nat.mod_le _ _) (Nat.div_le_self _ _)) hs
theorem zAh (s a m:Nat) (w:World) (hs:s<4294967296) (ha:a≤31) (hm:m≤20) :
  Calls prog 195 #[.int .u32 s,.int .i64 a,.int .i64 m] w fun e w'=>e=.returned (.int .u32 (pc s a m))∧∃ k,w'=w.drewN k:=by
 have h0:(0:Int)≤(a:Int):=by omega
 have h1:(0:Int)≤(m:Int):=by omega
 go_enter func195,ntmps195;go_wp2_with fail;go_quiet (fail)
 go_wp2;go_ret;refine ⟨zm ?_,_,rfl⟩;have hp:0<2^m:=Nat.two_pow_pos m;have hp2:2^m≤2^20:=Nat.pow_le_pow_right (by decide) hm;have e1:((2:Int)^m - 1)%4294967296=((2^m - 1:Nat):Int):=by
  rw [Int.natCast_sub hp,Int.natCast_pow];exact Int.emod_eq_of_lt (by have:=za m;omega) (by have:(2:Int)^m≤2^20:=(by exact_mod_cast hp2);omega)
 have e2:(s:Int)/2^a=((s/2^a:Nat):Int):=by simp
 rw [e1,e2,u32_and_nat _ _ (Nat.lt_of_le_of_lt (Nat.div_le_self _ _) hs) (by omega),Nat.and_two_pow_sub_one_eq_mod]
 rfl
theorem zHk (s:Nat) (w:World):Calls prog 172 #[.int .u32 s] w fun e w'=>e=.returned (.func (.func 209) #[] #[.pointer (some ⟨w.heap.size,0,none⟩)])∧Has w' w.heap.size 39 #[.int .u32 s]∧Kp none w w':=by
 have hmf:∀ (fn:Fn) (first cap:Array Value) (w:World),(Instr.makeFunc fn first cap).run prog w=.ok (.func fn first cap) w:=fun _ _ _ _=>rfl
 go_enter func172,ntmps172;go_wp2;go_ret;exact ⟨rfl,Has.new _ _ _,(Kp.refl _ _).alloc _ _⟩
theorem shl_pc (s a m k:Nat) (hm:m+k≤33):wrap64 (((pc s a m:Nat):Int)*2^k)=((pc s a m*2^k:Nat):Int):=by
 have h1:=zF s a m;have h2:pc s a m*2^k<2^33:=by
  calc pc s a m*2^k<2^m*2^k:=Nat.mul_lt_mul_of_pos_right h1 (Nat.two_pow_pos k)
   _=2^(m+k):=(Nat.pow_add 2 m k).symm
   _≤2^33:=Nat.pow_le_pow_right (by decide) hm
 have e:((pc s a m:Nat):Int)*2^k=((pc s a m*2^k:Nat):Int):=by simp
 rw [e];generalize pc s a m*2^k=t at *;unfold wrap64;omega
def tk (s a m k:Nat):Int:=(pc s a m*2^k:Nat)
theorem zl (n:Int) (s a m k c:Nat) (w:World) (hs:s<4294967296) (ha:a≤31) (hm:m≤20) (hk:k≤20) (hmk:m+k≤33) (hc:Has w c 39 #[.int .u32 s]) :
  Calls prog 209 #[.int .i64 n,.int .i64 a,.int .i64 m,.int .i64 k,.pointer (some ⟨c,0,none⟩)] w fun e w'=>e=.returned (.int .i64 (tk s a m k))∧Kp none w w':=by
 have h0:(0:Int)≤(k:Int):=by omega
 have c0:=hc.cell 0;simp at c0;have hl:=hid (shl_pc s a m k hmk);go_enter func209,ntmps209;go_wp2_with fail;refine (zAh s a m _ hs ha hm).mono ?_;rintro e w' ⟨rfl,q,rfl⟩;have hb:=pc_le s a m hs;go_wp2;go_ret;exact ⟨zm hl.out,(Kp.refl _ _).drewN _⟩
theorem zJd (n:Int) (b:Nat) (h1:1≤b) (h2:b≤64):wrap64 (sx (IntKind.u64.wrap n) b)=low n b:=by
 have e:low (IntKind.u64.wrap n) b=low n b:=by
  obtain ⟨q,hq⟩:=zKH n b;refine zEZ _ _ (q+2^(64 - b)*(-(n/18446744073709551616))) b h1 ?_ (zDB n b) (zDC n b h1);rw [Int.mul_add,← Int.mul_assoc,Int.mul_comm (2^b) (2^(64 - b)),pow64 b h2,IntKind.wrap_u64];omega
 have hm:=(low_mono b 64 h1 h2).1;have hl:=zDB n b;have hh:=zDC n b h1;simp at hm;unfold sx;rw [e];unfold wrap64;omega
theorem zAj (n:Int) (b:Nat) (w:World) (h1:(1:Int)≤b) (h2:(b:Int)≤64) :
  Calls prog 233 #[.int .i64 n,.int .i64 b] w fun e w'=>e=.returned (.int .i64 (low n b))∧w=w':=by
 go_enter func233,ntmps233;go_wp2_with fail;refine (zJi _ b _ h1 h2).mono ?_;rintro e w' ⟨rfl,rfl⟩;go_wp2;go_ret;exact ⟨zm (zJd n b (by omega) (by omega)),rfl⟩
theorem zJx (s j k:Nat):pc s (j+1) k*2+s/2^j%2=pc s j (k+1):=by
 unfold pc;have e1:s/2^(j+1)=s/2^j/2:=by rw [Nat.pow_succ,Nat.div_div_eq_div_mul]
 have e2:(2:Nat)^(k+1)=2*2^k:=by rw [Nat.pow_succ,Nat.mul_comm]
 rw [e1,e2,Nat.mod_mul];generalize s/2^j=t;generalize t/2%2^k=u;omega
theorem zJw (s j:Nat):pc s j 0=0:=by unfold pc;simp [Nat.mod_one]
theorem F_add (p t:Nat) (hp:p<4294967296):wrap64 ((p:Int)*2+wrap64 ((t:Int).tmod 2))=((p*2+t%2:Nat):Int):=by
 have e3:((t:Int)).tmod 2=((t%2:Nat):Int):=by rw [Int.tmod_eq_emod_of_nonneg (by omega)];simp
 rw [e3];unfold wrap64;omega
theorem zAy (s hi lo:Nat) (w:World) (hs:s<4294967296) (h1:lo≤hi) (h2:hi≤31) :
  Calls prog 35 #[.int .u32 s,.int .i64 hi,.int .i64 lo] w fun e w'=>e=.returned (.int .i64 (pc s lo (hi+1 - lo)))∧w=w':=by
 go_enter func35,ntmps35;go_wp2
 go_loop [7,8] (fun n i=>∃ k:Nat,k≤hi+1 - lo∧i=.int .i64 ((hi:Int) - k)∧n=.int .i64 (pc s (hi+1 - k) k)) (fun n i=>(intOf i+1).toNat)
 case atStart=>exact ⟨0,by omega,by simp,by rw [zJw];rfl⟩
 case round =>
  obtain ⟨k,hk,rfl,rfl⟩:=hrel;by_cases hlt:k<hi+1 - lo
  ·obtain ⟨j,hj⟩:∃ j:Nat,j+k=hi:=⟨hi - k,by omega⟩;have ej:(hi:Int) - (k:Int)=(j:Int):=by omega
   have ek:hi+1 - k=j+1:=by omega
   rw [ej,ek];have hb:=pc_le s (j+1) k hs;have hst:=hid (zJx s j k);have HJ:=hid hj;have hj31:(j:Int)≤31:=by omega
   have hjlo:(lo:Int)≤(j:Int):=by omega
   have hdm:Hid ((s:Int)/2^j=((s/2^j:Nat):Int)):=hid (by simp);clear ej ek hj;generalize pc s (j+1) k=p at *;go_wp2
   go_round
   case rel =>
    refine ⟨k+1,by omega,?_,?_⟩
    ·have:=HJ.out;first|(congr 1;omega)|omega|(congr 1)
    ·have e:=HJ.out;rw [show hi+1 - (k+1)=j by omega,← hst.out];rw [hdm.out];rw [F_add p (s/2^j) hb]
   case measure=>simp [intOf]<;>omega
  ·obtain rfl:k=hi+1 - lo:=by omega
   have e1:(hi:Int) - ((hi+1 - lo:Nat):Int)=(lo:Int) - 1:=by omega
   have e2:hi+1 - (hi+1 - lo)=lo:=by omega
   rw [e1,e2];clear e1 e2;go_wp2;go_ret;exact ⟨rfl,rfl⟩
theorem low_half (n:Int) (b:Nat) (h1:1≤b) (h0:0≤n) (h2:n<2^b):low n b=if 2^(b - 1)≤n then n - 2*2^(b - 1) else n:=by
 have hp:=zHP b h1;have hq:=za (b - 1)
 split
 ·exact zEZ n _ 1 b h1 (by omega) (by omega) (by omega)
 ·exact zEZ n _ 0 b h1 (by omega) (by omega) (by omega)
theorem S_hi (n:Int) (b:Nat) (w:World) (h1:1≤b) (h32:b≤32) (h0:0≤n) (hn:n<4294967296) (hge:2^(b - 1)≤n) :
  Calls prog 36 #[.int .i64 n,.int .i64 b] w fun e w'=>e=.returned (.int .i64 (n - 2*2^(b - 1)))∧w=w':=by
 have HG:=hid hge;clear hge;go_enter func36,ntmps36;go_wp2
 go_loop [5,6] (fun x i=>∃ k:Nat,k≤b - 1∧i=.int .i64 ((k:Int)+1)∧x=.int .i64 (2^k)) (fun x i=>b - (intOf i).toNat)
 case atStart=>exact ⟨0,by omega,rfl,rfl⟩
 case round =>
  obtain ⟨k,hk,rfl,rfl⟩:=hrel;have hkb:(2:Int)^k≤2147483648:=by
   have:=(low_mono (k+1) 32 (by omega) (by omega)).1
   simpa using this
  have hkp:=za k;by_cases hlt:k<b - 1
  ·have hc:(k:Int)+1<(b:Int):=by omega
   have HP:=hid (Int.pow_succ 2 k);generalize (2:Int)^k=p at *;go_wp2
   go_round
   case rel=>exact ⟨k+1,by omega,by first|rfl|(congr 1;omega)|(congr 1),by rw [HP.out]⟩
   case measure=>simp [intOf]<;>omega
  ·obtain rfl:k=b - 1:=by omega
   have hc:(b:Int)≤((b - 1:Nat):Int)+1:=by omega
   have hge:=HG.out;clear HG;generalize hp:(2:Int)^(b - 1)=p at *;have HQ:=hid hp;clear hp;go_wp2;go_ret;exact ⟨zm (by rw [HQ.out]),rfl⟩
theorem S_lo (n:Int) (b:Nat) (w:World) (h1:1≤b) (h32:b≤32) (h0:0≤n) (hn:n<4294967296) (hge:n<2^(b - 1)) :
  Calls prog 36 #[.int .i64 n,.int .i64 b] w fun e w'=>e=.returned (.int .i64 (n))∧w=w':=by
 have HG:=hid hge;clear hge;go_enter func36,ntmps36;go_wp2
 go_loop [5,6] (fun x i=>∃ k:Nat,k≤b - 1∧i=.int .i64 ((k:Int)+1)∧x=.int .i64 (2^k)) (fun x i=>b - (intOf i).toNat)
 case atStart=>exact ⟨0,by omega,rfl,rfl⟩
 case round =>
  obtain ⟨k,hk,rfl,rfl⟩:=hrel;have hkb:(2:Int)^k≤2147483648:=by
   have:=(low_mono (k+1) 32 (by omega) (by omega)).1
   simpa using this
  have hkp:=za k;by_cases hlt:k<b - 1
  ·have hc:(k:Int)+1<(b:Int):=by omega
   have HP:=hid (Int.pow_succ 2 k);generalize (2:Int)^k=p at *;go_wp2
   go_round
   case rel=>exact ⟨k+1,by omega,by first|rfl|(congr 1;omega)|(congr 1),by rw [HP.out]⟩
   case measure=>simp [intOf]<;>omega
  ·obtain rfl:k=b - 1:=by omega
   have hc:(b:Int)≤((b - 1:Nat):Int)+1:=by omega
   have hge:=HG.out;clear HG;generalize (2:Int)^(b - 1)=p at *;go_wp2;go_ret;exact ⟨rfl,rfl⟩
theorem zIS (n:Int) (b:Nat) (w:World) (h1:1≤b) (h32:b≤32) (h0:0≤n) (h2:n<2^b) :
  Calls prog 36 #[.int .i64 n,.int .i64 b] w fun e w'=>e=.returned (.int .i64 (low n b))∧w=w':=by
 have hn:n<4294967296:=by
  have:=(low_mono (b+1) 33 (by omega) (by omega)).1
  simp at this;omega
 rw [low_half n b h1 h0 h2];by_cases h:2^(b - 1)≤n
 ·rw [if_pos h];exact S_hi n b w h1 h32 h0 hn h
 ·rw [if_neg h];exact S_lo n b w h1 h32 h0 hn (by omega)
theorem zKD (b:Nat) (zs:List Int) (len cap:Nat) (k:Nat) (w:World) (hlen:zs.length=len) (hl:len≤100) (hc:∀ i,i<len→w.cell? ⟨b,i,none⟩=some (.int .i64 (zs.getD i 0))) :
  Calls prog 37 #[.slice (some ⟨b,0,none⟩) len cap,.int .i64 k] w fun e w'=>e=.returned (.int .i64 (zs.getD k 0))∧w=w':=by
 have HC:=hid hc;clear hc;by_cases hk:k<len
 ·have h1:=HC.out k hk;have h2:(k:Int)<(len:Int):=by omega
  generalize zs.getD k 0=o at *;clear hlen;go_enter func37,ntmps37;go_wp2;go_ret;exact ⟨rfl,rfl⟩
 ·have e:zs.getD k 0=0:=by simp [List.getD,List.getElem?_eq_none (show zs.length≤k by omega)]
  rw [e];have h2:(len:Int)≤(k:Int):=by omega
  clear e hlen;go_enter func37,ntmps37;go_wp2;go_ret;exact ⟨rfl,rfl⟩
end Go.Proofs.YtlhpodholnfppaaGreatDoor.Td
namespace Go.Proofs.YtlhpodholnfppaaGreatDoor
open Go
section
variable {P:Program} {ops:Array Oper} {Q:Exit→Act→World→Prop} {md:Region.Mode} {S:World→Prop} {n:Nat} {L:Act→World→Prop}
def wpHd (P:Program) (md:Region.Mode) (ops:Array Oper) (Q:Exit→Act→World→Prop) (S:World→Prop) (n:Nat) (L:Act→World→Prop):Nat→Array Bool→Act→World→Prop
 | 0,listed,a,w=>Region.seqB md ops (ops.size - n) n listed=true∧L a w
 | f+1,listed,a,w=>Region.ready md ops listed≠[]∧∀ i∈Region.ready md ops listed,i<n∧wpOp P ops Q i (fun a' w'=>S w'∧wpHd P md ops Q S n L f (listed.setIfInBounds i true) a' w') a w
theorem zFT (hL:∀ listed a w,Region.seqB md ops (ops.size - n) n listed=true→L a w→wpAny P md ops Q (ops.size - n) listed a w) :
  ∀ (f:Nat) (listed:Array Bool) (a:Act) (w:World),wpHd P md ops Q S n L f listed a w→wpAny P md ops Q (f+(ops.size - n)) listed a w
 | 0,listed,a,w,h=>by rw [Nat.zero_add];exact hL _ _ _ h.1 h.2
 | f+1,listed,a,w,h=>by
  rw [show f+1+(ops.size - n)=(f+(ops.size - n))+1 by omega];exact ⟨fun h0=>absurd h0 h.1,fun i hi=>wpOp_mono (fun a' w' h'=>zFT hL f _ a' w' h'.2) (h.2 i hi).2⟩
theorem wpHd_first {i:Nat} {oi:Oper} {v:Value} (hi:ops[i]?=some oi) (hsel:∀ (j:Nat) (o:Oper) cs b,ops[j]?=some o→o.op≠.select cs b)
  (hQ:∀ c a w,Q (.panic c) (a.put oi.dst v) w→Q (.panic c) a w)
  (hs:Region.sinkB md ops n=true) (hc:Region.chainB md ops n=true) (hn:n<ops.size) (hin:i<n) :
  ∀ (f:Nat) (listed:Array Bool) (a:Act) (w:World),HeadInv md ops n listed →
   (∀ j oj,ops[j]?=some oj→j≠i→listed.getD j true=false→(∀ e∈oj.after,Region.binds md e=true→e.on≠i)→oi.apart ops oj=true) →
   i∈Region.ready md ops listed→YieldsIf P ops S oi v a→S w →
   wpHd P md ops Q S n L f (listed.setIfInBounds i true) (a.put oi.dst v) w→wpHd P md ops Q S n L (f+1) listed a w:=by
 intro f
 induction f with
 | zero =>
  intro listed a w inv _ hr hy hS H;have hun:=(mem_ready.1 hr).1;refine ⟨fun h=>(by rw [h] at hr;cases hr),fun j hj=>?_⟩;have hjn:j<n:=by
   rcases Nat.lt_or_ge j n with h|h
   ·exact h
   ·exact absurd hj (tail_waits hs hc hn inv _ i rfl hin hun j h)
  refine ⟨hjn,?_⟩;by_cases hji:j=i
  ·subst hji;exact hy.wpOp hi hS ⟨hS,H⟩
  ·have:=seqB_ready H.1 j (ready_mono hj hji)
   omega
 | succ f ih =>
  intro listed a w inv hfree hr hy hS H;have hun:=(mem_ready.1 hr).1;refine ⟨fun h=>(by rw [h] at hr;cases hr),fun j hj=>?_⟩;have hjn:j<n:=by
   rcases Nat.lt_or_ge j n with h|h
   ·exact h
   ·exact absurd hj (tail_waits hs hc hn inv _ i rfl hin hun j h)
  refine ⟨hjn,?_⟩;by_cases hji:j=i
  ·subst hji;exact hy.wpOp hi hS ⟨hS,H⟩
  ·have h1:=(H.2 j (ready_mono hj hji)).2;obtain ⟨hjun,oj,hoj,hall⟩:=mem_ready.1 hj;have hnot:∀ e∈oj.after,Region.binds md e=true→e.on≠i:=fun e he hb heq=>by
    have h1:=hall e he hb;rw [heq,getD_both hun] at h1;cases h1
   have h2:=wpOp_putIf hoj (hfree j oj hoj hji hjun hnot) (fun cs b=>hsel i oi cs b hi) (fun cs b=>hsel j oj cs b hoj) hQ hy h1;have hfree':∀ k ok,ops[k]?=some ok→k≠i→(listed.setIfInBounds j true).getD k true=false →
     (∀ e∈ok.after,Region.binds md e=true→e.on≠i)→oi.apart ops ok=true:=fun k ok hk hki hun hno=>by
    refine hfree k ok hk hki ?_ hno;by_cases hjk:j=k
    ·subst hjk;exact hjun
    ·rw [getD_set_ne true hjk] at hun;exact hun
   refine wpOp_mono (fun a' w' h3=>⟨h3.2.1,ih (listed.setIfInBounds j true) a' w' (inv.set hj hjn) hfree' (ready_mono hr (Ne.symm hji)) h3.1 h3.2.1 ?_⟩) h2;rw [Array.setIfInBounds_comm _ _ hji];exact h3.2.2
def headB (md:Region.Mode) (ops:Array Oper) (n:Nat) (listed:Array Bool):Bool:=
 decide (listed.size=ops.size) &&
 ((List.range ops.size).all fun j=>!(listed.getD j false) || match ops[j]? with|some oj=>oj.after.all fun e=>!(Region.binds md e) || listed.getD e.on false|none=>true) &&
 ((List.range ops.size).all fun t=>decide (t<n) || !(listed.getD t true))
theorem headB_spec {listed:Array Bool} (h:headB md ops n listed=true):HeadInv md ops n listed:=by
 simp only [headB,Bool.and_eq_true,decide_eq_true_eq,List.all_eq_true,List.mem_range] at h;obtain ⟨⟨h1,h2⟩,h3⟩:=h;refine ⟨h1,fun j oj hj hl e he hb=>?_,fun t ht ht'=>?_⟩
 ·have:=h2 j (Array.getElem?_eq_some_iff.1 hj).1
  rw [hl,hj] at this;have h5:(oj.after.all fun e=>!(Region.binds md e) || listed.getD e.on false)=true:=by simpa only [Bool.not_true,Bool.false_or] using this
  have h4:=Array.all_eq_true_iff_forall_mem.1 h5 e he;rw [hb] at h4
  simpa only [Bool.not_true,Bool.false_or] using h4
 ·have:=h3 t ht'
  simp only [Bool.or_eq_true,decide_eq_true_eq,Bool.not_eq_true'] at this;rcases this with h|h
  ·omega
  ·exact h
def takeB (md:Region.Mode) (ops:Array Oper) (n:Nat) (listed:Array Bool) (i:Nat):Bool:=
 Region.noSelect ops&&Region.sinkB md ops n&&Region.chainB md ops n&&decide (n<ops.size)&&decide (i<n)&&headB md ops n listed&&Region.free md ops listed i&&(Region.ready md ops listed).contains i
variable {w:World}
theorem zC {i:Nat} {oi:Oper} {v:Value} {f:Nat} {listed:Array Bool} {a:Act} (hi:ops[i]?=some oi) (hB:takeB md ops n listed i=true)
 (hQ:∀ c a w,Q (.panic c) (a.put oi.dst v) w→Q (.panic c) a w) (hy:YieldsIf P ops S oi v a) (hS:S w)
 (h:wpHd P md ops Q S n L f (listed.setIfInBounds i true) (a.put oi.dst v) w):wpHd P md ops Q S n L (f+1) listed a w:=by
 simp only [takeB,Bool.and_eq_true,decide_eq_true_eq] at hB;obtain ⟨⟨⟨⟨⟨⟨⟨h1,h2⟩,h3⟩,h4⟩,h5⟩,h6⟩,h7⟩,h8⟩:=hB;exact wpHd_first hi (Region.noSelect_spec h1) hQ h2 h3 h4 h5 f listed a w (headB_spec h6) (Region.free_spec hi h7) (by simpa using h8) hy hS h
theorem zo {i:Nat} {o:Oper} {f:Nat} {listed:Array Bool} {a:Act} (ho:ops[i]?=some o) (hB:(decide (Region.ready md ops listed=[i])&&decide (i<n))=true)
 (h:∀ K':Act→World→Prop,Shut (∀ a w,S w→(S w→wpHd P md ops Q S n L f (listed.setIfInBounds i true) a w)→K' a w)→if Region.wanted o (yielded ops a.tmps)=true then Oper.wp P o a w K' Q else K' (a.put o.dst undef) w):
  wpHd P md ops Q S n L (f+1) listed a w:=by
 simp only [Bool.and_eq_true,decide_eq_true_eq] at hB;refine ⟨by rw [hB.1];simp,fun j hj=>?_⟩;rw [hB.1] at hj;obtain rfl:j=i:=by simpa using hj
 exact ⟨hB.2,wpOp_step ho (fun K' hK=>h K' (fun a w hS hW=>hK a w ⟨hS,hW hS⟩))⟩
theorem zAC {id:Nat} {l:List Oper} {a:Act} (n:Nat) (S:World→Prop) (hm:P.follows .mixedOrders=true) (hn:n<l.length) (hS:S w.drew)
 (h:S w.drew→wpHd P .any l.toArray Q S n (fun a' w'=>wpList P l.toArray Q (l.drop n) a' w') n (Array.replicate l.toArray.size false) a w.drew):(Code.region id l.toArray true).wp P Q a w:=by
 have hdl:(l.drop n).length=l.toArray.size - n:=by simp
 refine wp_region_any hm ?_
 have:=zFT (P:=P) (md:=.any) (ops:=l.toArray) (Q:=Q) (S:=S) (n:=n) (fun listed a' w' hB hL=>by
  have:=wpAny_of_seq (md:=.any) (Q':=Q) (l.drop n) n listed a' w' (fun j=>by simp [List.getElem?_drop]) (by rw [hdl];exact hB) hL
  rwa [hdl] at this) _ _ _ _ (h hS)
 rw [show n+(l.toArray.size - n)=l.toArray.size by simp;omega] at this;exact this
end
end Go.Proofs.YtlhpodholnfppaaGreatDoor
namespace Go.Proofs.YtlhpodholnfppaaGreatDoor.Td
open Go.RowKit
abbrev I7 (op rd r1 r2 im od sz:Int):Array Value:=#[.int .i64 op,.int .i64 rd,.int .i64 r1,.int .i64 r2,.int .i64 im,.int .i64 od,.int .i64 sz]
structure FrT (w:World) (c s:Nat) (cs:Array Value) (w1:World):Prop where
 kp:Kp none w w1
 box:Has w1 w.heap.size 38 cs
 res:Has w1 (w.heap.size+1) 38 (I7 0 0 0 0 0 0 0)
 mv:Has w1 c 39 #[.int .u32 s]
 lt:c<w.heap.size
variable {b s:Nat} {w w1 w2:World}
theorem FrT.start {c:Nat} (cs:Array Value) (h:Has w c 39 #[.int .u32 s]):
  FrT w c s cs ((w.alloc (.cells cs 38)).alloc (.cells (I7 0 0 0 0 0 0 0) 38)):=
 ⟨((Kp.refl _ _).alloc _ _).alloc _ _,(Has.new _ _ _).alloc _,by have:=Has.new (w.alloc (.cells cs 38)) (I7 0 0 0 0 0 0 0) 38;simpa using this,(h.alloc _).alloc _,h.lt⟩
variable {cs:Array Value}
theorem FrT.call {c:Nat} (h:FrT w c s cs w1) (k:Kp none w1 w2):FrT w c s cs w2:=
 ⟨h.kp.trans k,h.box.kp k (by simp),h.res.kp k (by simp),h.mv.kp k (by simp),h.lt⟩
theorem FrT.set {c:Nat} (h:FrT w c s cs w1) (i:Nat) (u:Value):FrT w c s (cs.setIfInBounds i u) (w1.setCell ⟨w.heap.size,i,none⟩ u):=
 ⟨h.kp.setCell (Or.inl (zzr _)) _,h.box.set i u,h.res.other (by show w.heap.size+1≠w.heap.size;omega) _,h.mv.other (by have:=h.lt;show c≠w.heap.size;omega) _,h.lt⟩
variable {im op r1 r2 rd:Int}
theorem Has.seven {od sz:Int} (h:Has w b 38 (I7 op rd r1 r2 im od sz)):
  w.cell? ⟨b,0,none⟩=some (.int .i64 op)∧w.cell? ⟨b,1,none⟩=some (.int .i64 rd)∧w.cell? ⟨b,2,none⟩=some (.int .i64 r1)∧w.cell? ⟨b,3,none⟩=some (.int .i64 r2) ∧
  w.cell? ⟨b,4,none⟩=some (.int .i64 im)∧w.cell? ⟨b,5,none⟩=some (.int .i64 od)∧w.cell? ⟨b,6,none⟩=some (.int .i64 sz):=
 ⟨h.cell 0,h.cell 1,h.cell 2,h.cell 3,h.cell 4,h.cell 5,h.cell 6⟩
theorem FrT.drew {c:Nat} (h:FrT w c s cs w1):FrT w c s cs w1.drew:=⟨h.kp.drew,h.box,h.res,h.mv,h.lt⟩
theorem Has.zA (h:Has w b 38 (I7 0 0 0 0 0 0 0)) (v0 v1 v2 v3 v4 v5 v6:Value):Has (((((((w.setCell ⟨b,0,none⟩ v0).setCell ⟨b,1,none⟩ v1).setCell ⟨b,2,none⟩ v2).setCell ⟨b,3,none⟩ v3).setCell ⟨b,4,none⟩ v4).setCell ⟨b,5,none⟩ v5).setCell ⟨b,6,none⟩ v6) b 38 #[v0,v1,v2,v3,v4,v5,v6]:=by
 have:=((((((h.set 0 v0).set 1 v1).set 2 v2).set 3 v3).set 4 v4).set 5 v5).set 6 v6
 exact this
theorem Kp.zA {o:Option Nat} {a:World} (h:Kp o a w) (hb:a.heap.size≤b) (v0 v1 v2 v3 v4 v5 v6:Value):Kp o a (((((((w.setCell ⟨b,0,none⟩ v0).setCell ⟨b,1,none⟩ v1).setCell ⟨b,2,none⟩ v2).setCell ⟨b,3,none⟩ v3).setCell ⟨b,4,none⟩ v4).setCell ⟨b,5,none⟩ v5).setCell ⟨b,6,none⟩ v6):=
 ((((((h.setCell (Or.inl hb) v0).setCell (Or.inl hb) v1).setCell (Or.inl hb) v2).setCell (Or.inl hb) v3).setCell (Or.inl hb) v4).setCell (Or.inl hb) v5).setCell (Or.inl hb) v6
end Go.Proofs.YtlhpodholnfppaaGreatDoor.Td
