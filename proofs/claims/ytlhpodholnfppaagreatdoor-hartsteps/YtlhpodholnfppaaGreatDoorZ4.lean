/-
  Part of the proof.
-/
import Derived.Test.YtlhpodholnfppaaGreatDoorZ3
set_option linter.unusedVariables false
set_option linter.unusedSimpArgs false
set_option maxHeartbeats 16000000
set_option maxRecDepth 100000
set_option linter.defProp false
open Go.Lib (hid)
namespace Go.Proofs.YtlhpodholnfppaaGreatDoor
open Go.Proofs.Tryz
open Go.RowKit
section
variable {T:Nat→Prop} {w:World} {sb n0:Nat} {L:List Rg} {M st:Nat→Int} {mo ba en:Int}
inductive zO (L:List Rg) (M:Nat→Int) (ha hn op:Int) (a:Nat) (x:Int):Out→(Nat→Int)→Prop
 | none_:awid op=0→zO L M ha hn op a x (badO 3 0 0) M
 | align:awid op≠0→(a:Int)%(awid op:Int)≠0→zO L M ha hn op a x (badO 5 0 a) M
 | scBad (z:Int):op=64∨op=75→(a:Int)%(awid op:Int)=0→zg L 2 a (awid op) z→zO L M ha hn op a x (badO 4 2 z) M
 | scNo:op=64∨op=75→(a:Int)%(awid op:Int)=0→zAi L 2 a (awid op)→¬ (ha=a∧hn=awid op)→zO L M ha hn op a x ⟨1,0,0,0,0,0⟩ M
 | scYes:op=64∨op=75→(a:Int)%(awid op:Int)=0→zAi L 2 a (awid op)→(ha=a∧hn=awid op)→zO L M ha hn op a x ⟨0,0,0,0,0,0⟩ (lay M a (putB x (awid op)))
 | lrBad (z:Int):op=63∨op=74→(a:Int)%(awid op:Int)=0→zg L 1 a (awid op) z→zO L M ha hn op a x (badO 4 1 z) M
 | lrYes:op=63∨op=74→(a:Int)%(awid op:Int)=0→zAi L 1 a (awid op)→zO L M ha hn op a x ⟨zV (zb M a (awid op)) (8*(awid op:Int)),a,awid op,0,0,0⟩ M
 | amBad (z:Int):op∈zu→(a:Int)%(awid op:Int)=0→zg L 1 a (awid op) z→zO L M ha hn op a x (badO 4 1 z) M
 | amNo (z:Int):op∈zu→(a:Int)%(awid op:Int)=0→zAi L 1 a (awid op)→zg L 2 a (awid op) z→zO L M ha hn op a x (badO 4 2 z) M
 | amYes:op∈zu→(a:Int)%(awid op:Int)=0→zAi L 1 a (awid op)→zAi L 2 a (awid op) →
   zO L M ha hn op a x ⟨zV (zb M a (awid op)) (8*(awid op:Int)),ha,hn,0,0,0⟩ (lay M a (putB (amoV op (zb M a (awid op)) x) (awid op)))
def zAd (T:Nat→Prop) (w:World) (sb n0:Nat) (L:List Rg) (M st:Nat→Int) (mo ba en:Int) (ha hn op:Int) (a:Nat) (x:Int) (e:Ending) (w':World):Prop:=∃ o M',e=.returned o.v∧zO L M ha hn op a x o M'∧(∃ st',Grow M M' st st'∧MS T w' sb (n0+9) L M' st' mo ba en)∧Fr T w w'
theorem zBQ (w:World) (a b c d:Obj):((((w.alloc a).alloc b).alloc c).alloc d).heap[w.heap.size]?=some a∧((((w.alloc a).alloc b).alloc c).alloc d).heap[w.heap.size+1]?=some b∧((((w.alloc a).alloc b).alloc c).alloc d).heap[w.heap.size+2]?=some c∧((((w.alloc a).alloc b).alloc c).alloc d).heap[w.heap.size+3]?=some d∧Bl w ((((w.alloc a).alloc b).alloc c).alloc d):=by
 obtain ⟨h0,h1,h2,h3⟩:=zHa w a b c d;exact ⟨h0,h1,h2,h3,((((Bl.refl w).alloc _).alloc _).alloc _).alloc _⟩
variable {n:Nat} {W:World}
theorem gapK {T:Nat→Prop} {w:World} {sb:Nat} {L:List Rg} {M st:Nat→Int} {mo ba en:Int} (h:MS T w sb n L M st mo ba en) (k:Bl w W):MS (gap T w.heap.size W.heap.size) W sb n L M st mo ba en:=h.gap k w.heap.size W.heap.size (zzr _)
theorem step_none (h:MS T w sb n0 L M st mo ba en) (ha hn op:Int) (a:Nat) (x:Int) (hA:a<2^64) (hx0:0≤x) (hx1:x<18446744073709551616) (hn0:n0<80000000) (hT:∀ b,w.heap.size≤b→T b) (ho:op<63∨84<op) :
  Calls prog 132 #[zB sb,zAR ha hn,.int .i64 op,.int .u64 (a:Int),.int .u64 x] w (zAd T w sb n0 L M st mo ba en ha hn op a x):=by
 have cw:∀ w,Calls prog 86 #[.int .i64 op] w fun e w'=>e=.returned (.int .i64 0)∧w=w':=fun w=>by
  have:=zAQ op w
  rwa [zGN ho] at this
 have CW:=hid cw;clear cw;obtain ⟨b0,b1,b2,b3,k0⟩:=zBQ w (.cells #[.int .u64 ha,.int .i64 hn] 45) (.cells #[.int .u64 0,.int .i64 0] 45) (.cells #[.int .i64 3,.int .i64 0,.int .u64 0] 33) (.cells #[.int .u64 (a:Int),.int .i64 0] 45);have HS:=hid (zO.none_ (zGN ho):zO L M ha hn op a x (badO 3 0 0) M);clear ho;have H:=hid ((h.bl k0).mono (m:=n0+9) (by omega));clear h;have HT_:=hid hT;clear hT;have B1:=hid b1;clear b1;have B2:=hid b2;clear b2 b0 b3;have K0:=hid k0;clear k0;have HA:=hid hA;clear hA;have HN0:=hid hn0;clear hn0;unfold zB zAR at *;go_enter func132,ntmps132;go_wp2_with fail;with_reducible refine (CW.out _).mono ?_
 rintro e w' ⟨rfl,rfl⟩;go_wp2_with fail;refine zzb (zAo rfl _ _ (w.heap.size+1) (w.heap.size+1+1) rfl (B1.out) rfl rfl (B2.out) rfl) rfl ?_;exact ⟨badO 3 0 0,M,rfl,HS.out,⟨st,Grow.refl M st,H.out⟩,Fr.zP K0.out⟩
theorem step_align4 (h:MS T w sb n0 L M st mo ba en) (ha hn op:Int) (a:Nat) (x:Int) (hA:a<2^64) (hx0:0≤x) (hx1:x<18446744073709551616) (hn0:n0<80000000) (hT:∀ b,w.heap.size≤b→T b) (ho:awid op=4) (hm:(a:Int)%4≠0) :
  Calls prog 132 #[zB sb,zAR ha hn,.int .i64 op,.int .u64 (a:Int),.int .u64 x] w (zAd T w sb n0 L M st mo ba en ha hn op a x):=by
 have cw:∀ w,Calls prog 86 #[.int .i64 op] w fun e w'=>e=.returned (.int .i64 4)∧w=w':=fun w=>by
  have:=zAQ op w
  rwa [ho] at this
 have CW:=hid cw;clear cw;obtain ⟨b0,b1,b2,b3,k0⟩:=zBQ w (.cells #[.int .u64 ha,.int .i64 hn] 45) (.cells #[.int .u64 0,.int .i64 0] 45) (.cells #[.int .i64 5,.int .i64 0,.int .u64 (a:Int)] 33) (.cells #[.int .u64 (a:Int),.int .i64 4] 45);have HS:=hid (zO.align (by omega) (by rw [ho];exact hm):zO L M ha hn op a x (badO 5 0 a) M);clear ho;have t1:((a:Int)%4 != 0)=true:=by simp only [bne_iff_ne,ne_eq];exact hm
 have haI:(a:Int)≤18446744073709551615:=by omega
 have haI0:(0:Int)≤(a:Int):=by omega
 clear hm;have H:=hid ((h.bl k0).mono (m:=n0+9) (by omega));clear h;have HT_:=hid hT;clear hT;have B1:=hid b1;clear b1;have B2:=hid b2;clear b2 b0 b3;have K0:=hid k0;clear k0;have HA:=hid hA;clear hA;have HN0:=hid hn0;clear hn0;unfold zB zAR at *;go_enter func132,ntmps132;go_wp2_with fail;with_reducible refine (CW.out _).mono ?_
 rintro e w' ⟨rfl,rfl⟩;go_wp2_with fail;refine zzb (zAo rfl _ _ (w.heap.size+1) (w.heap.size+1+1) rfl (B1.out) rfl rfl (B2.out) rfl) rfl ?_;exact ⟨badO 5 0 a,M,rfl,HS.out,⟨st,Grow.refl M st,H.out⟩,Fr.zP K0.out⟩
theorem step_align8 (h:MS T w sb n0 L M st mo ba en) (ha hn op:Int) (a:Nat) (x:Int) (hA:a<2^64) (hx0:0≤x) (hx1:x<18446744073709551616) (hn0:n0<80000000) (hT:∀ b,w.heap.size≤b→T b) (ho:awid op=8) (hm:(a:Int)%8≠0) :
  Calls prog 132 #[zB sb,zAR ha hn,.int .i64 op,.int .u64 (a:Int),.int .u64 x] w (zAd T w sb n0 L M st mo ba en ha hn op a x):=by
 have cw:∀ w,Calls prog 86 #[.int .i64 op] w fun e w'=>e=.returned (.int .i64 8)∧w=w':=fun w=>by
  have:=zAQ op w
  rwa [ho] at this
 have CW:=hid cw;clear cw;obtain ⟨b0,b1,b2,b3,k0⟩:=zBQ w (.cells #[.int .u64 ha,.int .i64 hn] 45) (.cells #[.int .u64 0,.int .i64 0] 45) (.cells #[.int .i64 5,.int .i64 0,.int .u64 (a:Int)] 33) (.cells #[.int .u64 (a:Int),.int .i64 8] 45);have HS:=hid (zO.align (by omega) (by rw [ho];exact hm):zO L M ha hn op a x (badO 5 0 a) M);clear ho;have t1:((a:Int)%8 != 0)=true:=by simp only [bne_iff_ne,ne_eq];exact hm
 have haI:(a:Int)≤18446744073709551615:=by omega
 have haI0:(0:Int)≤(a:Int):=by omega
 clear hm;have H:=hid ((h.bl k0).mono (m:=n0+9) (by omega));clear h;have HT_:=hid hT;clear hT;have B1:=hid b1;clear b1;have B2:=hid b2;clear b2 b0 b3;have K0:=hid k0;clear k0;have HA:=hid hA;clear hA;have HN0:=hid hn0;clear hn0;unfold zB zAR at *;go_enter func132,ntmps132;go_wp2_with fail;with_reducible refine (CW.out _).mono ?_
 rintro e w' ⟨rfl,rfl⟩;go_wp2_with fail;refine zzb (zAo rfl _ _ (w.heap.size+1) (w.heap.size+1+1) rfl (B1.out) rfl rfl (B2.out) rfl) rfl ?_;exact ⟨badO 5 0 a,M,rfl,HS.out,⟨st,Grow.refl M st,H.out⟩,Fr.zP K0.out⟩
theorem step_lr4 (h:MS T w sb n0 L M st mo ba en) (ha hn:Int) (a:Nat) (x:Int) (hA:a<2^64) (hx0:0≤x) (hx1:x<18446744073709551616) (hn0:n0<80000000) (hT:∀ b,w.heap.size≤b→T b) (hm:(a:Int)%4=0) :
  Calls prog 132 #[zB sb,zAR ha hn,.int .i64 63,.int .u64 (a:Int),.int .u64 x] w (zAd T w sb n0 L M st mo ba en ha hn 63 a x):=by
 have cw:∀ w,Calls prog 86 #[.int .i64 63] w fun e w'=>e=.returned (.int .i64 4)∧w=w':=fun w=>by
  have:=zAQ 63 w
  rwa [show awid 63=4 from rfl] at this
 have CW:=hid cw;clear cw;obtain ⟨b0,b1,b2,b3,k0⟩:=zBQ w (.cells #[.int .u64 ha,.int .i64 hn] 45) (.cells #[.int .u64 0,.int .i64 0] 45) (.cells #[.int .i64 0,.int .i64 0,.int .u64 0] 33) (.cells #[.int .u64 (a:Int),.int .i64 4] 45);have t1:((a:Int)%4 != 0)=false:=by simp [hm]
 have cl:=zIE (h.bl k0) a 4 hA (by omega);rw [show ((4:Nat):Int)=4 from rfl] at cl;have CL:=hid cl;clear cl;have HM:=hid hm;clear hm;have haI:(a:Int)≤18446744073709551615:=by omega
 have haI0:(0:Int)≤(a:Int):=by omega
 have H:=hid h;clear h;have HT_:=hid hT;clear hT;have B1:=hid b1;clear b1;have B2:=hid b2;clear b2;have B0:=hid b0;clear b0;have B3:=hid b3;clear b3;have K0:=hid k0;clear k0;have HA:=hid hA;clear hA;have HN0:=hid hn0;clear hn0;unfold zB zAR at *;go_enter func132,ntmps132;go_wp2_with fail;with_reducible refine (CW.out _).mono ?_
 rintro e w' ⟨rfl,rfl⟩;go_wp2_with fail;with_reducible refine CL.out.mono ?_
 rintro e w1 ⟨⟨y,ta,tn,k,fk,fa⟩,rfl,hh⟩;obtain ⟨M',hs,st',hri,hms,hfr⟩:∃ M',zO L M ha hn 63 a x ⟨y,ta,tn,k,fk,fa⟩ M'∧∃ st',Grow M M' st st'∧MS (gap T w.heap.size ((((w.alloc (.cells #[.int .u64 ha,.int .i64 hn] 45)).alloc (.cells #[.int .u64 0,.int .i64 0] 45)).alloc (.cells #[.int .i64 0,.int .i64 0,.int .u64 0] 33)).alloc (.cells #[.int .u64 (a:Int),.int .i64 4] 45)).heap.size) w1 sb (n0+9) L M' st' mo ba en∧Fr (gap T w.heap.size ((((w.alloc (.cells #[.int .u64 ha,.int .i64 hn] 45)).alloc (.cells #[.int .u64 0,.int .i64 0] 45)).alloc (.cells #[.int .i64 0,.int .i64 0,.int .u64 0] 33)).alloc (.cells #[.int .u64 (a:Int),.int .i64 4] 45)).heap.size) ((((w.alloc (.cells #[.int .u64 ha,.int .i64 hn] 45)).alloc (.cells #[.int .u64 0,.int .i64 0] 45)).alloc (.cells #[.int .i64 0,.int .i64 0,.int .u64 0] 33)).alloc (.cells #[.int .u64 (a:Int),.int .i64 4] 45)) w1:=by
  have g:=(gapK H.out K0.out).mono (m:=n0+9) (by omega);obtain ⟨hc,kk⟩:=hh;rcases hc with ⟨z,h1,h2⟩|⟨h1,h2⟩
  ·exact ⟨M,by rw [h2];exact zO.lrBad z (by simp) HM.out h1,st,Grow.refl M st,g.bl kk,Fr.zP kk⟩
  ·exact ⟨M,by rw [h2];exact zO.lrYes (by simp) HM.out h1,st,Grow.refl M st,g.bl kk,Fr.zP kk⟩
 have HSZ:=hid (zG B3.out);have HRI:=hid hri;clear hri;have HS:=hid hs;clear hs hh;have E1:=hfr.at_ B1.out (fun e=>e.2 ⟨by omega,by have:=HSZ.out;omega⟩);have E2:=hfr.at_ B2.out (fun e=>e.2 ⟨by omega,by have:=HSZ.out;omega⟩);have HFR:=hid (((Fr.zP K0.out).trans hfr.zBW:Fr T w w1));clear hfr;have HMS:=hid hms;clear hms;obtain ⟨x0,x1,f0,f1⟩:=row2 E1;obtain ⟨d0,d1,d2,q0,q1,q2⟩:=row3 E2;have E1':=hid E1;clear E1;have E2':=hid E2;clear E2;unfold Out.v zAR zAD;go_wp2_with fail;obtain ⟨s1,s2,s3⟩:=zAn (S:=T) (by omega) E1'.out E2'.out (.int .u64 ta) (.int .i64 tn) (.int .i64 k) (.int .i64 fk) (.int .u64 fa) HFR.out (by omega) (by omega);have hms2:=zCq (g:=w.heap.size+1) (g2:=w.heap.size+1+1) HMS.out (by have:=HSZ.out;omega) (by have:=HSZ.out;omega) (.int .u64 ta) (.int .i64 tn) (.int .i64 k) (.int .i64 fk) (.int .u64 fa);refine zzb (zAo rfl _ _ (w.heap.size+1) (w.heap.size+1+1) rfl (s1) rfl rfl (s2) rfl) rfl ?_;exact ⟨⟨y,ta,tn,k,fk,fa⟩,M',rfl,HS.out,⟨st',HRI.out,hms2⟩,s3⟩
theorem step_lr8 (h:MS T w sb n0 L M st mo ba en) (ha hn:Int) (a:Nat) (x:Int) (hA:a<2^64) (hx0:0≤x) (hx1:x<18446744073709551616) (hn0:n0<80000000) (hT:∀ b,w.heap.size≤b→T b) (hm:(a:Int)%8=0) :
  Calls prog 132 #[zB sb,zAR ha hn,.int .i64 74,.int .u64 (a:Int),.int .u64 x] w (zAd T w sb n0 L M st mo ba en ha hn 74 a x):=by
 have cw:∀ w,Calls prog 86 #[.int .i64 74] w fun e w'=>e=.returned (.int .i64 8)∧w=w':=fun w=>by
  have:=zAQ 74 w
  rwa [show awid 74=8 from rfl] at this
 have CW:=hid cw;clear cw;obtain ⟨b0,b1,b2,b3,k0⟩:=zBQ w (.cells #[.int .u64 ha,.int .i64 hn] 45) (.cells #[.int .u64 0,.int .i64 0] 45) (.cells #[.int .i64 0,.int .i64 0,.int .u64 0] 33) (.cells #[.int .u64 (a:Int),.int .i64 8] 45);have t1:((a:Int)%8 != 0)=false:=by simp [hm]
 have cl:=zIE (h.bl k0) a 8 hA (by omega);rw [show ((8:Nat):Int)=8 from rfl] at cl;have CL:=hid cl;clear cl;have HM:=hid hm;clear hm;have haI:(a:Int)≤18446744073709551615:=by omega
 have haI0:(0:Int)≤(a:Int):=by omega
 have H:=hid h;clear h;have HT_:=hid hT;clear hT;have B1:=hid b1;clear b1;have B2:=hid b2;clear b2;have B0:=hid b0;clear b0;have B3:=hid b3;clear b3;have K0:=hid k0;clear k0;have HA:=hid hA;clear hA;have HN0:=hid hn0;clear hn0;unfold zB zAR at *;go_enter func132,ntmps132;go_wp2_with fail;with_reducible refine (CW.out _).mono ?_
 rintro e w' ⟨rfl,rfl⟩;go_wp2_with fail;with_reducible refine CL.out.mono ?_
 rintro e w1 ⟨⟨y,ta,tn,k,fk,fa⟩,rfl,hh⟩;obtain ⟨M',hs,st',hri,hms,hfr⟩:∃ M',zO L M ha hn 74 a x ⟨y,ta,tn,k,fk,fa⟩ M'∧∃ st',Grow M M' st st'∧MS (gap T w.heap.size ((((w.alloc (.cells #[.int .u64 ha,.int .i64 hn] 45)).alloc (.cells #[.int .u64 0,.int .i64 0] 45)).alloc (.cells #[.int .i64 0,.int .i64 0,.int .u64 0] 33)).alloc (.cells #[.int .u64 (a:Int),.int .i64 8] 45)).heap.size) w1 sb (n0+9) L M' st' mo ba en∧Fr (gap T w.heap.size ((((w.alloc (.cells #[.int .u64 ha,.int .i64 hn] 45)).alloc (.cells #[.int .u64 0,.int .i64 0] 45)).alloc (.cells #[.int .i64 0,.int .i64 0,.int .u64 0] 33)).alloc (.cells #[.int .u64 (a:Int),.int .i64 8] 45)).heap.size) ((((w.alloc (.cells #[.int .u64 ha,.int .i64 hn] 45)).alloc (.cells #[.int .u64 0,.int .i64 0] 45)).alloc (.cells #[.int .i64 0,.int .i64 0,.int .u64 0] 33)).alloc (.cells #[.int .u64 (a:Int),.int .i64 8] 45)) w1:=by
  have g:=(gapK H.out K0.out).mono (m:=n0+9) (by omega);obtain ⟨hc,kk⟩:=hh;rcases hc with ⟨z,h1,h2⟩|⟨h1,h2⟩
  ·exact ⟨M,by rw [h2];exact zO.lrBad z (by simp) HM.out h1,st,Grow.refl M st,g.bl kk,Fr.zP kk⟩
  ·exact ⟨M,by rw [h2];exact zO.lrYes (by simp) HM.out h1,st,Grow.refl M st,g.bl kk,Fr.zP kk⟩
 have HSZ:=hid (zG B3.out);have HRI:=hid hri;clear hri;have HS:=hid hs;clear hs hh;have E1:=hfr.at_ B1.out (fun e=>e.2 ⟨by omega,by have:=HSZ.out;omega⟩);have E2:=hfr.at_ B2.out (fun e=>e.2 ⟨by omega,by have:=HSZ.out;omega⟩);have HFR:=hid (((Fr.zP K0.out).trans hfr.zBW:Fr T w w1));clear hfr;have HMS:=hid hms;clear hms;obtain ⟨x0,x1,f0,f1⟩:=row2 E1;obtain ⟨d0,d1,d2,q0,q1,q2⟩:=row3 E2;have E1':=hid E1;clear E1;have E2':=hid E2;clear E2;unfold Out.v zAR zAD;go_wp2_with fail;obtain ⟨s1,s2,s3⟩:=zAn (S:=T) (by omega) E1'.out E2'.out (.int .u64 ta) (.int .i64 tn) (.int .i64 k) (.int .i64 fk) (.int .u64 fa) HFR.out (by omega) (by omega);have hms2:=zCq (g:=w.heap.size+1) (g2:=w.heap.size+1+1) HMS.out (by have:=HSZ.out;omega) (by have:=HSZ.out;omega) (.int .u64 ta) (.int .i64 tn) (.int .i64 k) (.int .i64 fk) (.int .u64 fa);refine zzb (zAo rfl _ _ (w.heap.size+1) (w.heap.size+1+1) rfl (s1) rfl rfl (s2) rfl) rfl ?_;exact ⟨⟨y,ta,tn,k,fk,fa⟩,M',rfl,HS.out,⟨st',HRI.out,hms2⟩,s3⟩
theorem step_sc4 (h:MS T w sb n0 L M st mo ba en) (ha hn:Int) (a:Nat) (x:Int) (hA:a<2^64) (hx0:0≤x) (hx1:x<18446744073709551616) (hn0:n0<80000000) (hT:∀ b,w.heap.size≤b→T b) (hm:(a:Int)%4=0) :
  Calls prog 132 #[zB sb,zAR ha hn,.int .i64 64,.int .u64 (a:Int),.int .u64 x] w (zAd T w sb n0 L M st mo ba en ha hn 64 a x):=by
 have cw:∀ w,Calls prog 86 #[.int .i64 64] w fun e w'=>e=.returned (.int .i64 4)∧w=w':=fun w=>by
  have:=zAQ 64 w
  rwa [show awid 64=4 from rfl] at this
 have CW:=hid cw;clear cw;obtain ⟨b0,b1,b2,b3,k0⟩:=zBQ w (.cells #[.int .u64 ha,.int .i64 hn] 45) (.cells #[.int .u64 0,.int .i64 0] 45) (.cells #[.int .i64 0,.int .i64 0,.int .u64 0] 33) (.cells #[.int .u64 (a:Int),.int .i64 4] 45);have t1:((a:Int)%4 != 0)=false:=by simp [hm]
 have cl:=zGb (h.gap k0 w.heap.size ((((w.alloc (.cells #[.int .u64 ha,.int .i64 hn] 45)).alloc (.cells #[.int .u64 0,.int .i64 0] 45)).alloc (.cells #[.int .i64 0,.int .i64 0,.int .u64 0] 33)).alloc (.cells #[.int .u64 (a:Int),.int .i64 4] 45)).heap.size (zzr _)) ha hn a 4 x hA (by omega) hn0 (zCA hT w.heap.size k0.size);rw [show ((4:Nat):Int)=4 from rfl] at cl;have CL:=hid cl;clear cl;have HM:=hid hm;clear hm;have haI:(a:Int)≤18446744073709551615:=by omega
 have haI0:(0:Int)≤(a:Int):=by omega
 have H:=hid h;clear h;have HT_:=hid hT;clear hT;have B1:=hid b1;clear b1;have B2:=hid b2;clear b2;have B0:=hid b0;clear b0;have B3:=hid b3;clear b3;have K0:=hid k0;clear k0;have HA:=hid hA;clear hA;have HN0:=hid hn0;clear hn0;unfold zB zAR at *;go_enter func132,ntmps132;go_wp2_with fail;with_reducible refine (CW.out _).mono ?_
 rintro e w' ⟨rfl,rfl⟩;go_wp2_with fail;with_reducible refine CL.out.mono ?_
 rintro e w1 ⟨⟨y,ta,tn,k,fk,fa⟩,rfl,hh⟩;obtain ⟨M',hs,st',hri,hms,hfr⟩:∃ M',zO L M ha hn 64 a x ⟨y,ta,tn,k,fk,fa⟩ M'∧∃ st',Grow M M' st st'∧MS (gap T w.heap.size ((((w.alloc (.cells #[.int .u64 ha,.int .i64 hn] 45)).alloc (.cells #[.int .u64 0,.int .i64 0] 45)).alloc (.cells #[.int .i64 0,.int .i64 0,.int .u64 0] 33)).alloc (.cells #[.int .u64 (a:Int),.int .i64 4] 45)).heap.size) w1 sb (n0+9) L M' st' mo ba en∧Fr (gap T w.heap.size ((((w.alloc (.cells #[.int .u64 ha,.int .i64 hn] 45)).alloc (.cells #[.int .u64 0,.int .i64 0] 45)).alloc (.cells #[.int .i64 0,.int .i64 0,.int .u64 0] 33)).alloc (.cells #[.int .u64 (a:Int),.int .i64 4] 45)).heap.size) ((((w.alloc (.cells #[.int .u64 ha,.int .i64 hn] 45)).alloc (.cells #[.int .u64 0,.int .i64 0] 45)).alloc (.cells #[.int .i64 0,.int .i64 0,.int .u64 0] 33)).alloc (.cells #[.int .u64 (a:Int),.int .i64 4] 45)) w1:=by
  have g:=(gapK H.out K0.out).mono (m:=n0+9) (by omega);rcases hh with ⟨z,h1,h2,kk⟩|⟨h1,h3,h2,kk⟩|⟨h1,h3,h2,⟨st',hri,hms⟩,hfr⟩
  ·exact ⟨M,by rw [h2];exact zO.scBad z (by simp) HM.out h1,st,Grow.refl M st,g.bl kk,Fr.zP kk⟩
  ·exact ⟨M,by rw [h2];exact zO.scNo (by simp) HM.out h1 h3,st,Grow.refl M st,g.bl kk,Fr.zP kk⟩
  ·exact ⟨_,by rw [h2];exact zO.scYes (by simp) HM.out h1 h3,st',hri,hms,hfr⟩
 have HSZ:=hid (zG B3.out);have HRI:=hid hri;clear hri;have HS:=hid hs;clear hs hh;have E1:=hfr.at_ B1.out (fun e=>e.2 ⟨by omega,by have:=HSZ.out;omega⟩);have E2:=hfr.at_ B2.out (fun e=>e.2 ⟨by omega,by have:=HSZ.out;omega⟩);have HFR:=hid (((Fr.zP K0.out).trans hfr.zBW:Fr T w w1));clear hfr;have HMS:=hid hms;clear hms;obtain ⟨x0,x1,f0,f1⟩:=row2 E1;obtain ⟨d0,d1,d2,q0,q1,q2⟩:=row3 E2;have E1':=hid E1;clear E1;have E2':=hid E2;clear E2;unfold Out.v zAR zAD;go_wp2_with fail;obtain ⟨s1,s2,s3⟩:=zAn (S:=T) (by omega) E1'.out E2'.out (.int .u64 ta) (.int .i64 tn) (.int .i64 k) (.int .i64 fk) (.int .u64 fa) HFR.out (by omega) (by omega);have hms2:=zCq (g:=w.heap.size+1) (g2:=w.heap.size+1+1) HMS.out (by have:=HSZ.out;omega) (by have:=HSZ.out;omega) (.int .u64 ta) (.int .i64 tn) (.int .i64 k) (.int .i64 fk) (.int .u64 fa);refine zzb (zAo rfl _ _ (w.heap.size+1) (w.heap.size+1+1) rfl (s1) rfl rfl (s2) rfl) rfl ?_;exact ⟨⟨y,ta,tn,k,fk,fa⟩,M',rfl,HS.out,⟨st',HRI.out,hms2⟩,s3⟩
theorem step_sc8 (h:MS T w sb n0 L M st mo ba en) (ha hn:Int) (a:Nat) (x:Int) (hA:a<2^64) (hx0:0≤x) (hx1:x<18446744073709551616) (hn0:n0<80000000) (hT:∀ b,w.heap.size≤b→T b) (hm:(a:Int)%8=0) :
  Calls prog 132 #[zB sb,zAR ha hn,.int .i64 75,.int .u64 (a:Int),.int .u64 x] w (zAd T w sb n0 L M st mo ba en ha hn 75 a x):=by
 have cw:∀ w,Calls prog 86 #[.int .i64 75] w fun e w'=>e=.returned (.int .i64 8)∧w=w':=fun w=>by
  have:=zAQ 75 w
  rwa [show awid 75=8 from rfl] at this
 have CW:=hid cw;clear cw;obtain ⟨b0,b1,b2,b3,k0⟩:=zBQ w (.cells #[.int .u64 ha,.int .i64 hn] 45) (.cells #[.int .u64 0,.int .i64 0] 45) (.cells #[.int .i64 0,.int .i64 0,.int .u64 0] 33) (.cells #[.int .u64 (a:Int),.int .i64 8] 45);have t1:((a:Int)%8 != 0)=false:=by simp [hm]
 have cl:=zGb (h.gap k0 w.heap.size ((((w.alloc (.cells #[.int .u64 ha,.int .i64 hn] 45)).alloc (.cells #[.int .u64 0,.int .i64 0] 45)).alloc (.cells #[.int .i64 0,.int .i64 0,.int .u64 0] 33)).alloc (.cells #[.int .u64 (a:Int),.int .i64 8] 45)).heap.size (zzr _)) ha hn a 8 x hA (by omega) hn0 (zCA hT w.heap.size k0.size);rw [show ((8:Nat):Int)=8 from rfl] at cl;have CL:=hid cl;clear cl;have HM:=hid hm;clear hm;have haI:(a:Int)≤18446744073709551615:=by omega
 have haI0:(0:Int)≤(a:Int):=by omega
 have H:=hid h;clear h;have HT_:=hid hT;clear hT;have B1:=hid b1;clear b1;have B2:=hid b2;clear b2;have B0:=hid b0;clear b0;have B3:=hid b3;clear b3;have K0:=hid k0;clear k0;have HA:=hid hA;clear hA;have HN0:=hid hn0;clear hn0;unfold zB zAR at *;go_enter func132,ntmps132;go_wp2_with fail;with_reducible refine (CW.out _).mono ?_
 rintro e w' ⟨rfl,rfl⟩;go_wp2_with fail;with_reducible refine CL.out.mono ?_
 rintro e w1 ⟨⟨y,ta,tn,k,fk,fa⟩,rfl,hh⟩;obtain ⟨M',hs,st',hri,hms,hfr⟩:∃ M',zO L M ha hn 75 a x ⟨y,ta,tn,k,fk,fa⟩ M'∧∃ st',Grow M M' st st'∧MS (gap T w.heap.size ((((w.alloc (.cells #[.int .u64 ha,.int .i64 hn] 45)).alloc (.cells #[.int .u64 0,.int .i64 0] 45)).alloc (.cells #[.int .i64 0,.int .i64 0,.int .u64 0] 33)).alloc (.cells #[.int .u64 (a:Int),.int .i64 8] 45)).heap.size) w1 sb (n0+9) L M' st' mo ba en∧Fr (gap T w.heap.size ((((w.alloc (.cells #[.int .u64 ha,.int .i64 hn] 45)).alloc (.cells #[.int .u64 0,.int .i64 0] 45)).alloc (.cells #[.int .i64 0,.int .i64 0,.int .u64 0] 33)).alloc (.cells #[.int .u64 (a:Int),.int .i64 8] 45)).heap.size) ((((w.alloc (.cells #[.int .u64 ha,.int .i64 hn] 45)).alloc (.cells #[.int .u64 0,.int .i64 0] 45)).alloc (.cells #[.int .i64 0,.int .i64 0,.int .u64 0] 33)).alloc (.cells #[.int .u64 (a:Int),.int .i64 8] 45)) w1:=by
  have g:=(gapK H.out K0.out).mono (m:=n0+9) (by omega);rcases hh with ⟨z,h1,h2,kk⟩|⟨h1,h3,h2,kk⟩|⟨h1,h3,h2,⟨st',hri,hms⟩,hfr⟩
  ·exact ⟨M,by rw [h2];exact zO.scBad z (by simp) HM.out h1,st,Grow.refl M st,g.bl kk,Fr.zP kk⟩
  ·exact ⟨M,by rw [h2];exact zO.scNo (by simp) HM.out h1 h3,st,Grow.refl M st,g.bl kk,Fr.zP kk⟩
  ·exact ⟨_,by rw [h2];exact zO.scYes (by simp) HM.out h1 h3,st',hri,hms,hfr⟩
 have HSZ:=hid (zG B3.out);have HRI:=hid hri;clear hri;have HS:=hid hs;clear hs hh;have E1:=hfr.at_ B1.out (fun e=>e.2 ⟨by omega,by have:=HSZ.out;omega⟩);have E2:=hfr.at_ B2.out (fun e=>e.2 ⟨by omega,by have:=HSZ.out;omega⟩);have HFR:=hid (((Fr.zP K0.out).trans hfr.zBW:Fr T w w1));clear hfr;have HMS:=hid hms;clear hms;obtain ⟨x0,x1,f0,f1⟩:=row2 E1;obtain ⟨d0,d1,d2,q0,q1,q2⟩:=row3 E2;have E1':=hid E1;clear E1;have E2':=hid E2;clear E2;unfold Out.v zAR zAD;go_wp2_with fail;obtain ⟨s1,s2,s3⟩:=zAn (S:=T) (by omega) E1'.out E2'.out (.int .u64 ta) (.int .i64 tn) (.int .i64 k) (.int .i64 fk) (.int .u64 fa) HFR.out (by omega) (by omega);have hms2:=zCq (g:=w.heap.size+1) (g2:=w.heap.size+1+1) HMS.out (by have:=HSZ.out;omega) (by have:=HSZ.out;omega) (.int .u64 ta) (.int .i64 tn) (.int .i64 k) (.int .i64 fk) (.int .u64 fa);refine zzb (zAo rfl _ _ (w.heap.size+1) (w.heap.size+1+1) rfl (s1) rfl rfl (s2) rfl) rfl ?_;exact ⟨⟨y,ta,tn,k,fk,fa⟩,M',rfl,HS.out,⟨st',HRI.out,hms2⟩,s3⟩
theorem step_am4 (h:MS T w sb n0 L M st mo ba en) (ha hn op:Int) (a:Nat) (x:Int) (hA:a<2^64) (hx0:0≤x) (hx1:x<18446744073709551616) (hn0:n0<80000000) (hT:∀ b,w.heap.size≤b→T b) (ho:op∈zu) (hw:awid op=4) (hm:(a:Int)%4=0) :
  Calls prog 132 #[zB sb,zAR ha hn,.int .i64 op,.int .u64 (a:Int),.int .u64 x] w (zAd T w sb n0 L M st mo ba en ha hn op a x):=by
 have cw:∀ w,Calls prog 86 #[.int .i64 op] w fun e w'=>e=.returned (.int .i64 4)∧w=w':=fun w=>by
  have:=zAQ op w
  rwa [hw] at this
 have CW:=hid cw;clear cw;obtain ⟨b0,b1,b2,b3,k0⟩:=zBQ w (.cells #[.int .u64 ha,.int .i64 hn] 45) (.cells #[.int .u64 0,.int .i64 0] 45) (.cells #[.int .i64 0,.int .i64 0,.int .u64 0] 33) (.cells #[.int .u64 (a:Int),.int .i64 4] 45);have t1:((a:Int)%4 != 0)=false:=by simp [hm]
 have cl:=zGx (h.gap k0 w.heap.size ((((w.alloc (.cells #[.int .u64 ha,.int .i64 hn] 45)).alloc (.cells #[.int .u64 0,.int .i64 0] 45)).alloc (.cells #[.int .i64 0,.int .i64 0,.int .u64 0] 33)).alloc (.cells #[.int .u64 (a:Int),.int .i64 4] 45)).heap.size (zzr _)) ha hn op a 4 x hA (by omega) hx0 hx1 hn0 (zCA hT w.heap.size k0.size);rw [show ((4:Nat):Int)=4 from rfl] at cl;have CL:=hid cl;clear cl;have HM:=hid (show (a:Int)%(awid op:Int)=0 by rw [hw];exact hm);clear hm;have hop:=ho;simp only [zu,List.mem_cons,zzm,or_false] at hop;have n1:(op==63)=false:=nin (by omega);have n2:(op==74)=false:=nin (by omega);have n3:(op==64)=false:=nin (by omega);have n4:(op==75)=false:=nin (by omega);have HO:=hid ho;clear ho hop;have HW:=hid hw;clear hw;have haI:(a:Int)≤18446744073709551615:=by omega
 have haI0:(0:Int)≤(a:Int):=by omega
 have H:=hid h;clear h;have HT_:=hid hT;clear hT;have B1:=hid b1;clear b1;have B2:=hid b2;clear b2;have B0:=hid b0;clear b0;have B3:=hid b3;clear b3;have K0:=hid k0;clear k0;have HA:=hid hA;clear hA;have HN0:=hid hn0;clear hn0;unfold zB zAR at *;go_enter func132,ntmps132;go_wp2_with fail;with_reducible refine (CW.out _).mono ?_
 rintro e w' ⟨rfl,rfl⟩;go_wp2_with fail;with_reducible refine CL.out.mono ?_
 rintro e w1 ⟨⟨y,ta,tn,k,fk,fa⟩,rfl,hh⟩;obtain ⟨M',hs,st',hri,hms,hfr⟩:∃ M',zO L M ha hn op a x ⟨y,ta,tn,k,fk,fa⟩ M'∧∃ st',Grow M M' st st'∧MS (gap T w.heap.size ((((w.alloc (.cells #[.int .u64 ha,.int .i64 hn] 45)).alloc (.cells #[.int .u64 0,.int .i64 0] 45)).alloc (.cells #[.int .i64 0,.int .i64 0,.int .u64 0] 33)).alloc (.cells #[.int .u64 (a:Int),.int .i64 4] 45)).heap.size) w1 sb (n0+9) L M' st' mo ba en∧Fr (gap T w.heap.size ((((w.alloc (.cells #[.int .u64 ha,.int .i64 hn] 45)).alloc (.cells #[.int .u64 0,.int .i64 0] 45)).alloc (.cells #[.int .i64 0,.int .i64 0,.int .u64 0] 33)).alloc (.cells #[.int .u64 (a:Int),.int .i64 4] 45)).heap.size) ((((w.alloc (.cells #[.int .u64 ha,.int .i64 hn] 45)).alloc (.cells #[.int .u64 0,.int .i64 0] 45)).alloc (.cells #[.int .i64 0,.int .i64 0,.int .u64 0] 33)).alloc (.cells #[.int .u64 (a:Int),.int .i64 4] 45)) w1:=by
  have g:=(gapK H.out K0.out).mono (m:=n0+9) (by omega);rcases hh with ⟨z,h1,h2,kk⟩|⟨z,h1,h3,h2,kk⟩|⟨h1,h3,h2,⟨st',hri,hms⟩,hfr⟩
  ·exact ⟨M,by rw [h2];exact zO.amBad z HO.out HM.out (by rw [HW.out];exact h1),st,Grow.refl M st,g.bl kk,Fr.zP kk⟩
  ·exact ⟨M,by rw [h2];exact zO.amNo z HO.out HM.out (by rw [HW.out];exact h1) (by rw [HW.out];exact h3),st,Grow.refl M st,g.bl kk,Fr.zP kk⟩
  ·have hs:=zO.amYes (x:=x) (ha:=ha) (hn:=hn) (M:=M) HO.out HM.out (by rw [HW.out];exact h1) (by rw [HW.out];exact h3);rw [HW.out] at hs;exact ⟨_,by rw [h2];exact hs,st',hri,hms,hfr⟩
 have HSZ:=hid (zG B3.out);have HRI:=hid hri;clear hri;have HS:=hid hs;clear hs hh;have E1:=hfr.at_ B1.out (fun e=>e.2 ⟨by omega,by have:=HSZ.out;omega⟩);have E2:=hfr.at_ B2.out (fun e=>e.2 ⟨by omega,by have:=HSZ.out;omega⟩);have HFR:=hid (((Fr.zP K0.out).trans hfr.zBW:Fr T w w1));clear hfr;have HMS:=hid hms;clear hms;obtain ⟨x0,x1,f0,f1⟩:=row2 E1;obtain ⟨d0,d1,d2,q0,q1,q2⟩:=row3 E2;have E1':=hid E1;clear E1;have E2':=hid E2;clear E2;unfold Out.v zAR zAD;go_wp2_with fail;obtain ⟨s1,s2,s3⟩:=zAn (S:=T) (by omega) E1'.out E2'.out (.int .u64 ta) (.int .i64 tn) (.int .i64 k) (.int .i64 fk) (.int .u64 fa) HFR.out (by omega) (by omega);have hms2:=zCq (g:=w.heap.size+1) (g2:=w.heap.size+1+1) HMS.out (by have:=HSZ.out;omega) (by have:=HSZ.out;omega) (.int .u64 ta) (.int .i64 tn) (.int .i64 k) (.int .i64 fk) (.int .u64 fa);refine zzb (zAo rfl _ _ (w.heap.size+1) (w.heap.size+1+1) rfl (s1) rfl rfl (s2) rfl) rfl ?_;exact ⟨⟨y,ta,tn,k,fk,fa⟩,M',rfl,HS.out,⟨st',HRI.out,hms2⟩,s3⟩
theorem step_am8 (h:MS T w sb n0 L M st mo ba en) (ha hn op:Int) (a:Nat) (x:Int) (hA:a<2^64) (hx0:0≤x) (hx1:x<18446744073709551616) (hn0:n0<80000000) (hT:∀ b,w.heap.size≤b→T b) (ho:op∈zu) (hw:awid op=8) (hm:(a:Int)%8=0) :
  Calls prog 132 #[zB sb,zAR ha hn,.int .i64 op,.int .u64 (a:Int),.int .u64 x] w (zAd T w sb n0 L M st mo ba en ha hn op a x):=by
 have cw:∀ w,Calls prog 86 #[.int .i64 op] w fun e w'=>e=.returned (.int .i64 8)∧w=w':=fun w=>by
  have:=zAQ op w
  rwa [hw] at this
 have CW:=hid cw;clear cw;obtain ⟨b0,b1,b2,b3,k0⟩:=zBQ w (.cells #[.int .u64 ha,.int .i64 hn] 45) (.cells #[.int .u64 0,.int .i64 0] 45) (.cells #[.int .i64 0,.int .i64 0,.int .u64 0] 33) (.cells #[.int .u64 (a:Int),.int .i64 8] 45);have t1:((a:Int)%8 != 0)=false:=by simp [hm]
 have cl:=zGx (h.gap k0 w.heap.size ((((w.alloc (.cells #[.int .u64 ha,.int .i64 hn] 45)).alloc (.cells #[.int .u64 0,.int .i64 0] 45)).alloc (.cells #[.int .i64 0,.int .i64 0,.int .u64 0] 33)).alloc (.cells #[.int .u64 (a:Int),.int .i64 8] 45)).heap.size (zzr _)) ha hn op a 8 x hA (by omega) hx0 hx1 hn0 (zCA hT w.heap.size k0.size);rw [show ((8:Nat):Int)=8 from rfl] at cl;have CL:=hid cl;clear cl;have HM:=hid (show (a:Int)%(awid op:Int)=0 by rw [hw];exact hm);clear hm;have hop:=ho;simp only [zu,List.mem_cons,zzm,or_false] at hop;have n1:(op==63)=false:=nin (by omega);have n2:(op==74)=false:=nin (by omega);have n3:(op==64)=false:=nin (by omega);have n4:(op==75)=false:=nin (by omega);have HO:=hid ho;clear ho hop;have HW:=hid hw;clear hw;have haI:(a:Int)≤18446744073709551615:=by omega
 have haI0:(0:Int)≤(a:Int):=by omega
 have H:=hid h;clear h;have HT_:=hid hT;clear hT;have B1:=hid b1;clear b1;have B2:=hid b2;clear b2;have B0:=hid b0;clear b0;have B3:=hid b3;clear b3;have K0:=hid k0;clear k0;have HA:=hid hA;clear hA;have HN0:=hid hn0;clear hn0;unfold zB zAR at *;go_enter func132,ntmps132;go_wp2_with fail;with_reducible refine (CW.out _).mono ?_
 rintro e w' ⟨rfl,rfl⟩;go_wp2_with fail;with_reducible refine CL.out.mono ?_
 rintro e w1 ⟨⟨y,ta,tn,k,fk,fa⟩,rfl,hh⟩;obtain ⟨M',hs,st',hri,hms,hfr⟩:∃ M',zO L M ha hn op a x ⟨y,ta,tn,k,fk,fa⟩ M'∧∃ st',Grow M M' st st'∧MS (gap T w.heap.size ((((w.alloc (.cells #[.int .u64 ha,.int .i64 hn] 45)).alloc (.cells #[.int .u64 0,.int .i64 0] 45)).alloc (.cells #[.int .i64 0,.int .i64 0,.int .u64 0] 33)).alloc (.cells #[.int .u64 (a:Int),.int .i64 8] 45)).heap.size) w1 sb (n0+9) L M' st' mo ba en∧Fr (gap T w.heap.size ((((w.alloc (.cells #[.int .u64 ha,.int .i64 hn] 45)).alloc (.cells #[.int .u64 0,.int .i64 0] 45)).alloc (.cells #[.int .i64 0,.int .i64 0,.int .u64 0] 33)).alloc (.cells #[.int .u64 (a:Int),.int .i64 8] 45)).heap.size) ((((w.alloc (.cells #[.int .u64 ha,.int .i64 hn] 45)).alloc (.cells #[.int .u64 0,.int .i64 0] 45)).alloc (.cells #[.int .i64 0,.int .i64 0,.int .u64 0] 33)).alloc (.cells #[.int .u64 (a:Int),.int .i64 8] 45)) w1:=by
  have g:=(gapK H.out K0.out).mono (m:=n0+9) (by omega);rcases hh with ⟨z,h1,h2,kk⟩|⟨z,h1,h3,h2,kk⟩|⟨h1,h3,h2,⟨st',hri,hms⟩,hfr⟩
  ·exact ⟨M,by rw [h2];exact zO.amBad z HO.out HM.out (by rw [HW.out];exact h1),st,Grow.refl M st,g.bl kk,Fr.zP kk⟩
  ·exact ⟨M,by rw [h2];exact zO.amNo z HO.out HM.out (by rw [HW.out];exact h1) (by rw [HW.out];exact h3),st,Grow.refl M st,g.bl kk,Fr.zP kk⟩
  ·have hs:=zO.amYes (x:=x) (ha:=ha) (hn:=hn) (M:=M) HO.out HM.out (by rw [HW.out];exact h1) (by rw [HW.out];exact h3);rw [HW.out] at hs;exact ⟨_,by rw [h2];exact hs,st',hri,hms,hfr⟩
 have HSZ:=hid (zG B3.out);have HRI:=hid hri;clear hri;have HS:=hid hs;clear hs hh;have E1:=hfr.at_ B1.out (fun e=>e.2 ⟨by omega,by have:=HSZ.out;omega⟩);have E2:=hfr.at_ B2.out (fun e=>e.2 ⟨by omega,by have:=HSZ.out;omega⟩);have HFR:=hid (((Fr.zP K0.out).trans hfr.zBW:Fr T w w1));clear hfr;have HMS:=hid hms;clear hms;obtain ⟨x0,x1,f0,f1⟩:=row2 E1;obtain ⟨d0,d1,d2,q0,q1,q2⟩:=row3 E2;have E1':=hid E1;clear E1;have E2':=hid E2;clear E2;unfold Out.v zAR zAD;go_wp2_with fail;obtain ⟨s1,s2,s3⟩:=zAn (S:=T) (by omega) E1'.out E2'.out (.int .u64 ta) (.int .i64 tn) (.int .i64 k) (.int .i64 fk) (.int .u64 fa) HFR.out (by omega) (by omega);have hms2:=zCq (g:=w.heap.size+1) (g2:=w.heap.size+1+1) HMS.out (by have:=HSZ.out;omega) (by have:=HSZ.out;omega) (.int .u64 ta) (.int .i64 tn) (.int .i64 k) (.int .i64 fk) (.int .u64 fa);refine zzb (zAo rfl _ _ (w.heap.size+1) (w.heap.size+1+1) rfl (s1) rfl rfl (s2) rfl) rfl ?_;exact ⟨⟨y,ta,tn,k,fk,fa⟩,M',rfl,HS.out,⟨st',HRI.out,hms2⟩,s3⟩
theorem step_any (h:MS T w sb n0 L M st mo ba en) (ha hn op:Int) (a:Nat) (x:Int) (hA:a<2^64) (hx0:0≤x) (hx1:x<18446744073709551616) (hn0:n0<80000000) (hT:∀ b,w.heap.size≤b→T b) :
  Calls prog 132 #[zB sb,zAR ha hn,.int .i64 op,.int .u64 (a:Int),.int .u64 x] w (zAd T w sb n0 L M st mo ba en ha hn op a x):=by
 by_cases h0:op<63∨84<op
 ·exact step_none h ha hn op a x hA hx0 hx1 hn0 hT h0
 ·by_cases h4:op≤73
  ·have hw:awid op=4:=zIQ ⟨by omega,h4⟩;by_cases hm:(a:Int)%4=0
   ·by_cases e1:op=63
    ·subst e1;exact step_lr4 h ha hn a x hA hx0 hx1 hn0 hT hm
    ·by_cases e2:op=64
     ·subst e2;exact step_sc4 h ha hn a x hA hx0 hx1 hn0 hT hm
     ·exact step_am4 h ha hn op a x hA hx0 hx1 hn0 hT (by simp only [zu,List.mem_cons,zzm,or_false];omega) hw hm
   ·exact step_align4 h ha hn op a x hA hx0 hx1 hn0 hT hw hm
  ·have hw:awid op=8:=zIP ⟨by omega,by omega⟩;by_cases hm:(a:Int)%8=0
   ·by_cases e1:op=74
    ·subst e1;exact step_lr8 h ha hn a x hA hx0 hx1 hn0 hT hm
    ·by_cases e2:op=75
     ·subst e2;exact step_sc8 h ha hn a x hA hx0 hx1 hn0 hT hm
     ·exact step_am8 h ha hn op a x hA hx0 hx1 hn0 hT (by simp only [zu,List.mem_cons,zzm,or_false];omega) hw hm
   ·exact step_align8 h ha hn op a x hA hx0 hx1 hn0 hT hw hm
end
end Go.Proofs.YtlhpodholnfppaaGreatDoor
namespace Go.Proofs.YtlhpodholnfppaaGreatDoor
open Go.Proofs.Tryz
structure Pg where
 no:Int
 p:Int
 b:Nat
def toR (x:Pg):Rg:=⟨x.no*4096,x.no*4096+4096,x.p⟩
noncomputable def regs (P:List Pg):List Rg:=join [] (P.map toR)
def Pgs (n:Nat) (P:List Pg):Prop:=P.Pairwise (fun x y=>x.no<y.no)∧∀ x,x∈P→0≤x.no∧x.no<(n:Int)
theorem Pgs.nil (n:Nat):Pgs n []:=⟨List.Pairwise.nil,fun x h=>by cases h⟩
variable {N P:List Pg} {b base cap g k m n rb sb:Nat}
theorem pg_so (h:Pgs n P):So 0 ((n:Int)*4096) (P.map toR):=by
 refine ⟨?_,fun r hr=>?_⟩
 ·rw [List.pairwise_map];exact h.1.imp fun h=>by simp only [toR];omega
 ·obtain ⟨x,hx,rfl⟩:=List.mem_map.1 hr
  have:=h.2 x hx
  simp only [toR];omega
theorem pg_al (P:List Pg):Al (P.map toR):=fun r hr=>by
 obtain ⟨x,hx,rfl⟩:=List.mem_map.1 hr;simp only [toR];omega
theorem pg_tot (P:List Pg):tot (P.map toR)=(P.length:Int)*4096:=by
 induction P with
 | nil=>simp [tot]
 | cons x P ih=>simp only [List.map_cons,tot,ih,List.length_cons,toR];omega
def OnP (P:List Pg) (a q:Int):Prop:=∃ x,x∈P∧x.no*4096≤a∧a<x.no*4096+4096∧x.p=q
variable {a b0 b1 c e mo no p:Int}
theorem onP_in {q:Int}:In (P.map toR) a q↔OnP P a q:=by
 constructor
 ·rintro ⟨r,hr,h⟩;obtain ⟨x,hx,rfl⟩:=List.mem_map.1 hr;exact ⟨x,hx,h⟩
 ·rintro ⟨x,hx,h⟩;exact ⟨toR x,List.mem_map_of_mem hx,h⟩
theorem zEA (h:Pgs n P) (hn:(n:Int)≤67108864):
  Rs (regs P)∧(∀ a q,In (regs P) a q↔OnP P a q)∧tot (regs P)=(P.length:Int)*4096∧(regs P).length≤P.length:=by
 obtain ⟨h1,h2,h3,h4,h5,_⟩:=zFG (Nm.nil 0 274877906944) ((pg_so h).mono (by omega) (by omega)) (fun q r hq _=>by cases hq);refine ⟨⟨h1,h4 Al.nil (pg_al P)⟩,fun a q=>?_,?_,by simpa [regs] using h5⟩
 ·show In (join _ _) a q↔_;rw [h2,onP_in];exact ⟨fun h=>h.resolve_left (zGS _ _),.inr⟩
 ·show tot (join _ _)=_;rw [h3,pg_tot];simp [tot]
def outP (P:List Pg) (s e:Int):List Pg:=P.filter fun x=>decide (x.no*4096<s) || decide (e≤x.no*4096)
theorem zCo {s:Int} {x:Pg}:x∈outP P s e↔x∈P∧(x.no*4096<s∨e≤x.no*4096):=by
 simp [outP,List.mem_filter]
theorem zIz {s:Int} (h:Pgs n P):Pgs n (outP P s e):=
 ⟨h.1.sublist List.filter_sublist,fun x hx=>h.2 x (zCo.1 hx).1⟩
theorem outP_on {s q:Int} (hs:s%4096=0) (he:e%4096=0) (hse:s<e):OnP (outP P s e) a q↔(a<s∨e≤a)∧OnP P a q:=by
 constructor
 ·rintro ⟨x,hx,h1,h2,h3⟩;obtain ⟨h4,h5⟩:=zCo.1 hx;exact ⟨by omega,x,h4,h1,h2,h3⟩
 ·rintro ⟨h0,x,hx,h1,h2,h3⟩;exact ⟨x,zCo.2 ⟨hx,by omega⟩,h1,h2,h3⟩
def News (p s a:Int) (N:List Pg):Prop:=(N.length:Int)*4096=a - s∧∀ (i:Nat) (x:Pg),N[i]?=some x→x.no*4096=s+(i:Int)*4096∧x.p=p
theorem News.nil (p s:Int):News p s s []:=⟨by simp,fun i x h=>by simp at h⟩
theorem News.push {s:Int} (h:News p s a N) (x:Pg) (hx:x.no*4096=a) (hp:x.p=p):News p s (a+4096) (N++[x]):=by
 refine ⟨?_,fun i y hy=>?_⟩
 ·have:=h.1
  rw [List.length_append];simp;omega
 ·rcases Nat.lt_trichotomy i N.length with hi|hi|hi
  ·rw [List.getElem?_append_left hi] at hy;exact h.2 i y hy
  ·subst hi;rw [List.getElem?_append_right (by omega)] at hy;simp at hy;subst hy
   have:=h.1
   exact ⟨by omega,hp⟩
  ·rw [List.getElem?_append_right (by omega),List.getElem?_eq_none (by simp;omega)] at hy;cases hy
theorem News.mem {s:Int} (h:News p s a N) {x:Pg} (hx:x∈N):s≤x.no*4096∧x.no*4096+4096≤a∧x.p=p:=by
 obtain ⟨i,hi,rfl⟩:=List.mem_iff_getElem.1 hx;have h1:=h.2 i _ (List.getElem?_eq_getElem hi);have h2:=h.1;omega
theorem News.on {s:Int} (h:News p s a N) (hs:s%4096=0) {y q:Int}:OnP N y q↔s≤y∧y<a∧p=q:=by
 constructor
 ·rintro ⟨x,hx,h1,h2,h3⟩
  have:=h.mem hx
  omega
 ·rintro ⟨h1,h2,h3⟩;have h4:=h.1;have hi:((y - s)/4096).toNat<N.length:=by omega
  have h5:=h.2 _ _ (List.getElem?_eq_getElem hi);exact ⟨N[((y - s)/4096).toNat],List.getElem_mem hi,by omega,by omega,by omega⟩
theorem News.pair {s:Int} (h:News p s a N):N.Pairwise fun x y=>x.no<y.no:=by
 rw [List.pairwise_iff_getElem];intro i j hi hj hij;have h1:=h.2 i _ (List.getElem?_eq_getElem hi);have h2:=h.2 j _ (List.getElem?_eq_getElem hj);omega
theorem zJK {s:Int} (h:Pgs n P) (hs0:0≤s) (hs:s%4096=0) (he:e%4096=0) (hse:s<e) (hn:e≤(n:Int)*4096) (hN:News p s e N) (k:Nat)
 (h1:∀ x,x∈(outP P s e).take k→x.no*4096<s) (h2:∀ x,x∈(outP P s e).drop k→e≤x.no*4096):
  Pgs n ((outP P s e).take k++N++(outP P s e).drop k)∧∀ a q,OnP ((outP P s e).take k++N++(outP P s e).drop k) a q↔(s≤a∧a<e∧p=q)∨((a<s∨e≤a)∧OnP P a q):=by
 have ho:=zIz (s:=s) (e:=e) h;refine ⟨⟨?_,fun x hx=>?_⟩,fun a q=>?_⟩
 ·refine List.pairwise_append.2 ⟨List.pairwise_append.2 ⟨ho.1.sublist (List.take_sublist _ _),hN.pair,fun x hx y hy=>?_⟩,ho.1.sublist (List.drop_sublist _ _),fun x hx y hy=>?_⟩
  ·have a1:=h1 x hx;have a2:=hN.mem hy;omega
  ·have a2:=h2 y hy;rcases List.mem_append.1 hx with hx|hx
   ·have:=h1 x hx;omega
   ·have:=hN.mem hx;omega
 ·rcases List.mem_append.1 hx with hx|hx
  ·rcases List.mem_append.1 hx with hx|hx
   ·exact ho.2 x (List.mem_of_mem_take hx)
   ·have:=hN.mem hx;omega
  ·exact ho.2 x (List.mem_of_mem_drop hx)
 ·rw [← outP_on hs he hse,← hN.on hs]
  constructor
  ·rintro ⟨x,hx,h⟩;rcases List.mem_append.1 hx with hx|hx
   ·rcases List.mem_append.1 hx with hx|hx
    ·exact .inr ⟨x,List.mem_of_mem_take hx,h⟩
    ·exact .inl ⟨x,hx,h⟩
   ·exact .inr ⟨x,List.mem_of_mem_drop hx,h⟩
  ·rintro (⟨x,hx,h⟩|⟨x,hx,h⟩)
   ·exact ⟨x,by simp [hx],h⟩
   ·have hx2:x∈(outP P s e).take k++(outP P s e).drop k:=by rw [List.take_append_drop];exact hx
    rcases List.mem_append.1 hx2 with hx2|hx2
    ·exact ⟨x,by simp [hx2],h⟩
    ·exact ⟨x,by simp [hx2],h⟩
theorem split_at (h:Pgs n P) (s:Int) (k:Nat) (h2:∀ x,P[k]?=some x→s≤x.no*4096):∀ x,x∈P.drop k→s≤x.no*4096:=by
 intro x hx;obtain ⟨i,hi,rfl⟩:=List.mem_iff_getElem.1 hx;rw [List.length_drop] at hi;rw [List.getElem_drop];have hk:k<P.length:=by omega
 have h3:=h2 P[k] (List.getElem?_eq_getElem hk);rcases Nat.eq_zero_or_pos i with h0|h0
 ·subst h0;simpa using h3
 ·have:=List.pairwise_iff_getElem.1 h.1 k (k+i) hk (by omega) (by omega)
  omega
section
open Go.RowKit
def pgC (x:Pg):List Value:=[.int .u64 x.no,.int .i64 x.p,.slice (some ⟨x.b,0,none⟩) 4096 4096]
abbrev PRow:=RowG (α:=Pg) 87 pgC
theorem infoPg:(prog.info? 87).map (fun i=>(i.zero,i.size,i.bytes))=some (some (.agg #[.int .u64 0,.int .i64 0,.slice none 0 0]),3,40):=by kernel_rfl
theorem zDp (r:Pg):(pgC r).length=3:=rfl
theorem pgC_one (r:Pg) (u:Value) (h:u∈pgC r):u.oneCell'=true:=by
 simp only [pgC,List.mem_cons,List.not_mem_nil,or_false] at h;rcases h with rfl|rfl|rfl<;>rfl
variable {W w w':World}
theorem zAz {L:List Pg} (h:PRow w base (.slice (some ⟨g,0,none⟩) n cap) L) (k:Nat) (r:Pg) (hk:L[k]?=some r):
  w.cell? ⟨g,k*3,none⟩=some (.int .u64 r.no)∧w.cell? ⟨g,k*3+1,none⟩=some (.int .i64 r.p)∧w.cell? ⟨g,k*3+2,none⟩=some (.slice (some ⟨r.b,0,none⟩) 4096 4096):=
 ⟨by simpa [pgC] using h.cell zDp k 0 r hk (by omega),by simpa [pgC] using h.cell zDp k 1 r hk (by omega),by simpa [pgC] using h.cell zDp k 2 r hk (by omega)⟩
theorem zDn {v:Value} {L:List Pg} (h:PRow W base v L) (ty:TypeId) (A:Option Addr) (M:List Pg) (m cap:Nat) (hm:m=M.length) (hA:A=none→M=[]∧cap=0) (hcell:∀ ad,A=some ad→∀ j u,(flat pgC M)[j]?=some u→W.cell? (ad.add j)=some u)
 (hl:L.length+M.length≤1000000) (hbase:base≤W.heap.size):
  ∃ v' W',(Builtin.append_ #[81,81] ty #[v,.slice A m cap]).run prog W=.ok v' W'∧PRow W' base v' (L++M)∧W.grownBy W' v.ownBlock∧(v'.ownBlock=v.ownBlock∨v'.ownBlock=some W.heap.size):=by
 obtain ⟨i0,hi0,hz0,hz1,hz2⟩:=info_parts infoPg;subst hm;rcases A with _|ad
 ·obtain ⟨rfl,rfl⟩:=hA rfl;exact ⟨v,W,run_append_owned_none (P:=prog) (w:=W) base 81 ty 87 i0 3 underlying81 hi0 v L.length (flat pgC L) h.1,by simpa using h,World.grownBy.refl W _,.inl rfl⟩
 ·obtain ⟨v',w',h1,h2,h3,h4,h5⟩:=run_append_own_at (P:=prog) W base 81 ty 87 i0 _ 3 40 underlying81 hi0 hz0 hz1 hz2 rfl (by omega) v L.length (flat pgC L) h.1 ad M.length cap (flat pgC M) (zAv zDp M) (hcell ad rfl) (fun u hu=>by
    simp only [flat,List.mem_flatMap] at hu;obtain ⟨x,_,hx⟩:=hu;exact pgC_one x u hx) (by simp only [maxLen];omega) (by omega) hbase
  refine ⟨v',w',h1,⟨?_,fun e=>?_⟩,h3,h5⟩
  ·rw [List.length_append,zCB];exact h2
  ·obtain ⟨e1,e2⟩:=List.append_eq_nil_iff.1 e;exact h4.2 ⟨h.2 e1,by rw [e2];rfl⟩
theorem zFw {v:Value} {L:List Pg} (h:PRow W base v L) (q:Pg) (g:Nat) (ty:TypeId) (hg:W.heap[g]?=some (.cells #[.int .u64 q.no,.int .i64 q.p,.slice (some ⟨q.b,0,none⟩) 4096 4096] 87 (0,0))) (hl:L.length≤100000) (hbase:base≤W.heap.size):
  ∃ v' W',(Builtin.append_ #[81,81] ty #[v,.slice (some ⟨g,0,none⟩) 1 1]).run prog W=.ok v' W'∧PRow W' base v' (L++[q])∧W.grownBy W' v.ownBlock∧(v'.ownBlock=v.ownBlock∨v'.ownBlock=some W.heap.size):=by
 refine zDn h ty (some ⟨g,0,none⟩) [q] 1 1 rfl (fun e=>by cases e) (fun ad had j u hj=>?_) (by simp;omega) hbase;cases had;have e1:(⟨g,0,none⟩:Addr).add j=⟨g,j,none⟩:=by unfold Addr.add;split<;>simp_all
 rw [e1,cell_of_row W g j _ 87 (0,0) hg]
 simpa [flat,pgC] using hj
def zAm (mo e0 e1:Int) (w:World) (b:Nat) (P:List Pg):Prop:=∃ v,w.heap[b]?=some (.cells #[v,.int .i64 mo,.int .u64 e0,.int .u64 e1] 83 (0,0))∧PRow w 0 v P
section
variable {mo e0 e1:Int}
theorem zAm.bl {L:List Pg} (h:zAm mo e0 e1 w b L) (k:Bl w w'):zAm mo e0 e1 w' b L:=by
 obtain ⟨v,h1,h2⟩:=h;exact ⟨v,k.at_ h1,h2.bl k⟩
theorem zAm.lt {L:List Pg} (h:zAm mo e0 e1 w b L):b<w.heap.size:=by
 obtain ⟨v,h1,h2⟩:=h;exact zG h1
theorem zAm.frozen {L:List Pg} (h:zAm mo e0 e1 w b L) (i:Nat):w.frozen? ⟨b,i,none⟩=false:=by
 obtain ⟨v,h1,h2⟩:=h;simp [World.frozen?,h1]
theorem zAm.cells (h:zAm mo e0 e1 w b P):∃ A cap,w.cell? ⟨b,0,none⟩=some (.slice A P.length cap)∧w.cell? ⟨b,1,none⟩=some (.int .i64 mo)∧PRow w 0 (.slice A P.length cap) P:=by
 obtain ⟨v,h1,h2⟩:=h;obtain ⟨A,cap,rfl⟩:=h2.shape;exact ⟨A,cap,by rw [cell_of_row w b 0 _ 83 (0,0) h1];rfl,by rw [cell_of_row w b 1 _ 83 (0,0) h1];rfl,h2⟩
end
def PRowPost (w:World) (L:List Pg) (e:Ending) (w':World):Prop:=∃ v,e=.returned v∧PRow w' w.heap.size v L∧Bl w w'
theorem outP_take (P:List Pg) (s e:Int) (k:Nat) (x:Pg) (hk:P[k]?=some x):outP (P.take (k+1)) s e=outP (P.take k) s e++(if x.no*4096<s∨e≤x.no*4096 then [x] else []):=by
 rw [List.take_add_one,hk];simp only [outP,List.filter_append]
 congr 1
 by_cases h:x.no*4096<s∨e≤x.no*4096
 ·rw [if_pos h];simp [h]
 ·rw [if_neg h];have h1:¬ x.no*4096<s:=fun h'=>h (.inl h')
  have h2:¬ e≤x.no*4096:=fun h'=>h (.inr h')
  simp [h1,h2]
theorem zHQ (P:List Pg) (s e:Int):(outP P s e).length≤P.length:=List.length_filter_le _ _
theorem zFU {e0 e1:Int} (h:zAm mo e0 e1 w b P) (hp:Pgs 67108864 P) (hl:P.length≤5000) (s t:Int):
  Calls prog 44 #[zB b,.int .u64 s,.int .u64 t] w (PRowPost w (outP P s t)):=by
 have HH:=hid h;clear h;have HPG:=hid hp;clear hp;have hlI:(P.length:Int)≤5000:=by omega
 obtain ⟨n,hn⟩:∃ n,n=P.length:=⟨_,rfl⟩;rw [← hn] at hlI;have HN:=hid hn;clear hn;have HL:=hid hl;clear hl;unfold zB;go_enter func44,ntmps44;go_wp2_with fail
 go_loopw [7,8,9] (fun v7 i _ wr=>∃ k:Nat,k≤n∧i=.int .i64 k∧PRow wr w.heap.size v7 (outP (P.take k) s t)∧Bl w wr) (fun _ i _ _=>n - (intOf i).toNat)
 case atStart=>exact ⟨0,by omega,rfl,RowG.nil,Bl.refl _⟩
 case round =>
  obtain ⟨k,hk,rfl,hrow,hbl⟩:=hrel;have HROW:=hid hrow;clear hrow;obtain ⟨A,cap,e0,e1,hpr⟩:=(HH.out.bl hbl).cells;rw [← HN.out] at e0 hpr;have HPR:=hid hpr;clear hpr e1;have HBL:=hid hbl;clear hbl;by_cases hlt:k<n
  ·have hltL:k<P.length:=by have:=HN.out;omega
   obtain ⟨x,hx⟩:∃ x,P[k]?=some x:=⟨P[k],List.getElem?_eq_getElem hltL⟩;have hne:P≠[]:=by intro e;rw [e] at hltL;simp at hltL
   obtain ⟨g,cap',cur,hA,_,hnc,hg,_⟩:=HPR.out.form hne;have hA':A=some ⟨g,0,none⟩:=by injection hA
   subst hA';obtain ⟨c0,c1,c2⟩:=zAz HPR.out k x hx;clear hA hnc hg hne hltL;obtain ⟨x1,x2⟩:=HPG.out.2 x (List.mem_of_getElem? hx);have x3:x.no<67108864:=by omega
   clear x2;have hstep:=outP_take P s t k x hx;have hwl:(outP (P.take k) s t).length≤5000:=by
    have h1:=zHQ (P.take k) s t;have h2:=HL.out;rw [List.length_take] at h1;omega
   have HS:=hid hstep;clear hstep hx;have HWL:=hid hwl;clear hwl;have hkI:(k:Int)<(n:Int):=by omega
   by_cases hc:x.no*4096<s∨t≤x.no*4096
   ·have hrow2:=HROW.out.bl (Bl.new _ (.cells #[.int .u64 x.no,.int .i64 x.p,.slice (some ⟨x.b,0,none⟩) 4096 4096] 87));have hb2:Bl w (wr.alloc (.cells #[.int .u64 x.no,.int .i64 x.p,.slice (some ⟨x.b,0,none⟩) 4096 4096] 87)):=HBL.out.alloc _;obtain ⟨v',W',hrun,hrow3,hgr,_⟩:=zFw hrow2 x wr.heap.size 81 (heap_alloc_new wr _) (by have:=HWL.out;omega) hb2.size;have hbl3:Bl w W':=Below.grown hb2 hgr hb2.size (fun q hq=>(hrow2.lt q hq).1);have HROW3:=hid hrow3;clear hrow3 hrow2 hb2 hgr;have HBL3:=hid hbl3;clear hbl3;have HRUN:=hid hrun;clear hrun;by_cases hc1:x.no*4096<s
    ·go_wp2_with (first|(at_builtin;refine zY rfl (.tmp 36) (.tmp 44) 81 rfl _ _ _ rfl rfl HRUN.out ?_));refine ⟨⟨k+1,by omega,by go_num,by rw [HS.out,if_pos hc];exact HROW3.out,HBL3.out⟩,?_⟩;simp only [intOf];omega
    ·have hc2:t≤x.no*4096:=by omega
     have hc3:s≤x.no*4096:=by omega
     go_wp2_with (first|(at_builtin;refine zY rfl (.tmp 36) (.tmp 44) 81 rfl _ _ _ rfl rfl HRUN.out ?_));refine ⟨⟨k+1,by omega,by go_num,by rw [HS.out,if_pos hc];exact HROW3.out,HBL3.out⟩,?_⟩;simp only [intOf];omega
   ·have hc2:x.no*4096<t:=by omega
    have hc3:s≤x.no*4096:=by omega
    go_wp2_with fail;refine ⟨⟨k+1,by omega,by go_num,by rw [HS.out,if_neg hc];simpa using HROW.out,HBL.out⟩,?_⟩;simp only [intOf];omega
  ·obtain rfl:k=n:=by omega
   have hfin:=HROW.out;rw [HN.out,List.take_length] at hfin;have HF:=hid hfin;clear hfin;go_wp2_with fail;go_ret;exact ⟨_,rfl,HF.out,HBL.out⟩
end
section
open Go.RowKit
theorem regs_take (P:List Pg) (k:Nat) (x:Pg) (hk:P[k]?=some x):join [] ((P.take (k+1)).map toR)=zAO (join [] ((P.take k).map toR)) (toR x):=by
 rw [List.take_add_one,hk];simp [join,List.foldl_append]
structure RR (w:World) (P:List Pg) (k:Nat) (v:Value) (wr:World):Prop where
 row:Row wr w.heap.size v (join [] ((P.take k).map toR))
 bl:Bl w wr
variable {w:World}
theorem zFk {v:Value} (h:PRow w base v P) (hp:Pgs 67108864 P) (hl:P.length≤5000):Calls prog 45 #[v] w (zHe w (regs P)):=by
 obtain ⟨A,cap,rfl⟩:=h.shape;have hlI:(P.length:Int)≤5000:=by omega
 have HPR:=hid h;clear h;have HPG:=hid hp;clear hp;obtain ⟨n,hn⟩:∃ n,n=P.length:=⟨_,rfl⟩;rw [← hn] at hlI HPR ⊢;have HN:=hid hn;clear hn;go_enter func45,ntmps45;go_wp2_with fail
 go_loopw [3,4,5,6] (fun v3 i _ _ wr=>∃ k:Nat,k≤n∧i=.int .i64 k∧RR w P k v3 wr) (fun _ i _ _ _=>n - (intOf i).toNat)
 case atStart=>exact ⟨0,by omega,rfl,⟨RowG.nil,Bl.refl _⟩⟩
 case round =>
  obtain ⟨k,hk,rfl,hrr⟩:=hrel;have HRR:=hid hrr;clear hrr;by_cases hlt:k<n
  ·have hltL:k<P.length:=by have:=HN.out;omega
   obtain ⟨x,hx⟩:∃ x,P[k]?=some x:=⟨P[k],List.getElem?_eq_getElem hltL⟩;have hne:P≠[]:=by intro e;rw [e] at hltL;simp at hltL
   obtain ⟨g,cap',cur,hA,_,hnc,hg,_⟩:=HPR.out.form hne;have hA':A=some ⟨g,0,none⟩:=by injection hA
   subst hA';obtain ⟨c0,c1,c2⟩:=zAz (HPR.out.bl HRR.out.bl) k x hx;clear hA hnc hg hne hltL;obtain ⟨x1,x2⟩:=HPG.out.2 x (List.mem_of_getElem? hx);have x3:x.no<67108864:=by omega
   clear x2;have hstep:=regs_take P k x hx;have hkI:(k:Int)<(n:Int):=by omega
   clear hx;obtain ⟨J,hJ⟩:∃ J,J=join [] ((P.take k).map toR):=⟨_,rfl⟩;have hrow:=HRR.out.row;rw [← hJ] at hrow hstep;have hjl:J.length≤5000:=by
    have h1:=zCO [] ((P.take k).map toR);rw [← hJ,List.length_map,List.length_take] at h1;simp only [List.length_nil] at h1;omega
   have HS:=hid hstep;clear hstep hJ;have HJL:=hid hjl;clear hjl;have HBL:=hid HRR.out.bl;clear c2;obtain ⟨xn,xp,xb⟩:=x;simp only [toR] at *;rcases last_cases J with rfl|⟨B,q,rfl⟩
   ·obtain rfl:=hrow.2 rfl;have HROW2:=hid hrow;clear hrow;go_wp2_with fail;go_quiet (fail)
    have hrowD:Row ((wr.drewN nq).alloc (.cells #[.int .u64 (xn*4096),.int .u64 (xn*4096+4096),.int .i64 xp] 112)) w.heap.size (.slice none 0 0) []:=(HROW2.out.bl ((Bl.refl wr).drewN nq)).bl (Bl.new _ _);have hbel:Bl w ((wr.drewN nq).alloc (.cells #[.int .u64 (xn*4096),.int .u64 (xn*4096+4096),.int .i64 xp] 112)):=(HBL.out.drewN nq).alloc _;obtain ⟨v',W',hrun,hrow3,hgr,hown⟩:=zCm hrowD ⟨xn*4096,xn*4096+4096,xp⟩ wr.heap.size 95 (heap_alloc_new (wr.drewN nq) _) (by have:=HJL.out;omega) hbel.size;have hj2:RR w P (k+1) v' W':=⟨by rw [HS.out,zBx];exact hrow3,Below.grown hbel hgr hbel.size (fun q' hq'=>(hrowD.lt q' hq').1)⟩;have HJ2:=hid hj2;clear hj2 hrow3 hgr hown hrowD hbel;have HRUN:=hid hrun;clear hrun;go_wp2_with (first|(at_builtin;refine zY rfl (.tmp 54) (.tmp 64) 95 rfl _ _ _ rfl rfl HRUN.out ?_));refine ⟨⟨k+1,by omega,by go_num,HJ2.out⟩,?_⟩;simp only [intOf];omega
   ·have HROW2:=hid hrow;clear hrow;have hq:(B++[q])[B.length]?=some q:=by simp
    obtain ⟨g0,cap0,_,hv0,hbg0,_,_,_⟩:=HROW2.out.form (by simp);simp only [List.length_append,List.length_singleton] at hv0;subst hv0;obtain ⟨d0,d1,d2⟩:=zBt HROW2.out B.length q hq;have hBl:B.length≤20000:=by have:=HJL.out;simp at this;omega
    clear hq;obtain ⟨j,hj⟩:∃ j,j=B.length:=⟨_,rfl⟩;rw [← hj] at d0 d1 d2 hBl HROW2 HRR ⊢;have HJJ:=hid hj;clear hj;have fz:=HROW2.out.free (j*3+1);have hjI:(j:Int)≤20000:=by omega
    have hj0:(0:Int)≤(j:Int):=by omega
    by_cases e1:q.e=xn*4096
    ·have t1:(q.e==xn*4096)=true:=by simp [e1]
     by_cases e2:q.p=xp
     ·have t2:(q.p==xp)=true:=by simp [e2]
      have HJY:=hid (zBw B q ⟨xn*4096,xn*4096+4096,xp⟩ e1 e2);clear e1 e2;go_wp2_with fail;go_quiet (fail)
      have hrowE:=zIY (HROW2.out.bl ((Bl.refl wr).drewN nq)) (xn*4096+4096);rw [← HJJ.out] at hrowE;have hj2:RR w P (k+1) (.slice (some ⟨g0,0,none⟩) (j+1) cap0) ((wr.drewN nq).setCell ⟨g0,j*3+1,none⟩ (.int .u64 (xn*4096+4096))):=⟨by rw [HS.out,HJY.out];exact hrowE,(HBL.out.drewN nq).set hbg0 _⟩;have HJ2:=hid hj2;clear hj2 hrowE;go_wp2_with fail;refine ⟨⟨k+1,by omega,by go_num,HJ2.out⟩,?_⟩;simp only [intOf];omega
     ·have t2:(q.p==xp)=false:=by simp [e2]
      have HJN:=hid (zBc B q ⟨xn*4096,xn*4096+4096,xp⟩ (fun h=>e2 h.2));clear e1 e2;go_wp2_with fail;go_quiet (fail)
      have hrowD:Row ((wr.drewN nq).alloc (.cells #[.int .u64 (xn*4096),.int .u64 (xn*4096+4096),.int .i64 xp] 112)) w.heap.size (.slice (some ⟨g0,0,none⟩) (j+1) cap0) (B++[q]):=(HROW2.out.bl ((Bl.refl wr).drewN nq)).bl (Bl.new _ _);have hbel:Bl w ((wr.drewN nq).alloc (.cells #[.int .u64 (xn*4096),.int .u64 (xn*4096+4096),.int .i64 xp] 112)):=(HBL.out.drewN nq).alloc _;obtain ⟨v',W',hrun,hrow3,hgr,hown⟩:=zCm hrowD ⟨xn*4096,xn*4096+4096,xp⟩ wr.heap.size 95 (heap_alloc_new (wr.drewN nq) _) (by have:=HJL.out;omega) hbel.size;have hj2:RR w P (k+1) v' W':=⟨by rw [HS.out,HJN.out];exact hrow3,Below.grown hbel hgr hbel.size (fun q' hq'=>(hrowD.lt q' hq').1)⟩;have HJ2:=hid hj2;clear hj2 hrow3 hgr hown hrowD hbel;have HRUN:=hid hrun;clear hrun;go_wp2_with (first|(at_builtin;refine zY rfl (.tmp 54) (.tmp 64) 95 rfl _ _ _ rfl rfl HRUN.out ?_));refine ⟨⟨k+1,by omega,by go_num,HJ2.out⟩,?_⟩;simp only [intOf];omega
    ·have t1:(q.e==xn*4096)=false:=by simp [e1]
     have HJN:=hid (zBc B q ⟨xn*4096,xn*4096+4096,xp⟩ (fun h=>e1 h.1));clear e1;go_wp2_with fail;go_quiet (fail)
     have hrowD:Row ((wr.drewN nq).alloc (.cells #[.int .u64 (xn*4096),.int .u64 (xn*4096+4096),.int .i64 xp] 112)) w.heap.size (.slice (some ⟨g0,0,none⟩) (j+1) cap0) (B++[q]):=(HROW2.out.bl ((Bl.refl wr).drewN nq)).bl (Bl.new _ _);have hbel:Bl w ((wr.drewN nq).alloc (.cells #[.int .u64 (xn*4096),.int .u64 (xn*4096+4096),.int .i64 xp] 112)):=(HBL.out.drewN nq).alloc _;obtain ⟨v',W',hrun,hrow3,hgr,hown⟩:=zCm hrowD ⟨xn*4096,xn*4096+4096,xp⟩ wr.heap.size 95 (heap_alloc_new (wr.drewN nq) _) (by have:=HJL.out;omega) hbel.size;have hj2:RR w P (k+1) v' W':=⟨by rw [HS.out,HJN.out];exact hrow3,Below.grown hbel hgr hbel.size (fun q' hq'=>(hrowD.lt q' hq').1)⟩;have HJ2:=hid hj2;clear hj2 hrow3 hgr hown hrowD hbel;have HRUN:=hid hrun;clear hrun;go_wp2_with (first|(at_builtin;refine zY rfl (.tmp 54) (.tmp 64) 95 rfl _ _ _ rfl rfl HRUN.out ?_));refine ⟨⟨k+1,by omega,by go_num,HJ2.out⟩,?_⟩;simp only [intOf];omega
  ·obtain rfl:k=n:=by omega
   have hfin:=HRR.out.row;rw [HN.out,List.take_length] at hfin;have HF:=hid hfin;clear hfin;go_wp2_with fail;go_ret;exact ⟨_,rfl,HF.out,HRR.out.bl⟩
end
section
open Go.RowKit
theorem zGh (A:Option Addr) (n cap k:Nat) (hk:k≤n) (hn:n≤cap) (w:World):(Instr.sliceAt 81 (.slice A n cap) (some (.int .i64 (k:Int))) none none).run prog w=.ok (.slice (if cap=k then A else A.map (·.add (k*3))) (n - k) (cap - k)) w:=by
 obtain ⟨i0,hi0,hz0,hz1,hz2⟩:=info_parts infoPg;simp [Instr.sliceAt,Instr.slice,run_underlying underlying81,Instr.sliceBounds,Instr.sliceBound,asIntOf,sizeOf,typeInfo,hi0,hz1,Result.andThen];rw [if_pos hk]
theorem flat_drop (R:List Pg) (k:Nat):flat pgC (R.drop k)=(flat pgC R).drop (k*3):=by
 by_cases hk:k≤R.length
 ·have h1:flat pgC R=flat pgC (R.take k)++flat pgC (R.drop k):=by rw [← zCB,List.take_append_drop]
  have h2:(flat pgC (R.take k)).length=k*3:=by rw [zAv zDp,List.length_take];omega
  have h3:(flat pgC (R.take k)).drop (k*3)=[]:=List.drop_of_length_le (by omega);rw [h1,List.drop_append,h2,h3];simp
 ·have h1:=zAv zDp R;rw [List.drop_of_length_le (by omega),List.drop_of_length_le (by omega)];rfl
variable {A:Option Addr} {w:World}
theorem zGp {R:List Pg} (h:PRow w base (.slice A n cap) R) (hk:k≤n):
  n=R.length∧n≤cap∧((if cap=k then A else A.map (·.add (k*3)))=none→R.drop k=[]∧cap - k=0)∧∀ ad,(if cap=k then A else A.map (·.add (k*3)))=some ad→∀ j u,(flat pgC (R.drop k))[j]?=some u→w.cell? (ad.add j)=some u:=by
 rcases h.1.2 with ⟨h1,h0⟩|⟨g,cap',cur,h1,h2,h3,h4,h5,h6,h7⟩
 ·injection h1 with e1 e2 e3;subst e1 e2 e3;have hR:R=[]:=List.eq_nil_of_length_eq_zero h0;subst hR;obtain rfl:k=0:=by omega
  exact ⟨rfl,Nat.le_refl _,fun _=>⟨rfl,rfl⟩,fun ad had=>by simp at had⟩
 ·injection h1 with e1 e2 e3;subst e1 e2 e3;refine ⟨rfl,h4,fun e=>?_,fun ad had j u hu=>?_⟩
  ·split at e<;>simp at e
  ·by_cases hc:cap=k
   ·have hd:R.drop k=[]:=List.drop_of_length_le (by omega);rw [hd] at hu;simp [flat] at hu
   ·rw [if_neg hc] at had;simp only [Option.map_some,Option.some.injEq] at had;subst had;rw [flat_drop,List.getElem?_drop] at hu;have hlt:=(List.getElem?_eq_some_iff.1 hu).1;rw [zAv zDp] at hlt;have e1:((⟨g,0,none⟩:Addr).add (k*3)).add j=⟨g,k*3+j,none⟩:=by
     unfold Addr.add;by_cases a0:k*3=0<;>by_cases b0:j=0<;>simp [a0,b0]
    rw [e1,h.1.cellAt (k*3+j) hlt];exact hu
end
section
open Go.RowKit
def zero4:Obj:=.cells (zJ (List.replicate 4096 0)).toArray 5 (0,0)
structure Zs (w1 wr:World) (N:List Pg):Prop where
 z:∀ x,x∈N→w1.heap.size≤x.b∧wr.heap[x.b]?=some zero4
 d:N.Pairwise fun x y=>x.b≠y.b
def zGQ (base:Nat) (mo b0 b1:Int) (w:World) (b:Nat) (P:List Pg):Prop:=∃ v,w.heap[b]?=some (.cells #[v,.int .i64 mo,.int .u64 b0,.int .u64 b1] 83 (0,0))∧PRow w base v P
variable {w w' w1 wr:World}
theorem zAm.zJl {L L':List Pg} {v:Value} (h:zAm mo b0 b1 w b L) {ba:Nat} (hr:PRow w base v L') (hb:ba≤base):zGQ ba mo b0 b1 (w.setCell ⟨b,0,none⟩ v) b L':=by
 obtain ⟨v0,h1,h2⟩:=h;refine ⟨v,by simpa using heap_setCell_same w b 0 _ 83 v h1,(hr.zJX (b2:=ba) (fun g hg=>Nat.le_trans hb (hr.lt g hg).1)).kept fun g hg=>Below.heap_setCell _ _ _ _ (fun e=>?_)⟩;obtain ⟨cur,hcur⟩:=hr.type hg;rw [show g=b from e,h1] at hcur;exact absurd (zBI hcur) (by decide)
theorem Zs.nil (w1 wr:World):Zs w1 wr []:=⟨fun x h=>(by cases h),List.Pairwise.nil⟩
theorem Zs.bl (h:Zs w1 wr N) (k:Bl wr w'):Zs w1 w' N:=⟨fun x hx=>⟨(h.z x hx).1,k.at_ (h.z x hx).2⟩,h.d⟩
theorem Zs.grown {L:List Pg} {v:Value} (h:Zs w1 wr N) (hrow:PRow wr base v L) (hg:wr.grownBy w' v.ownBlock):Zs w1 w' N:=by
 refine ⟨fun x hx=>⟨(h.z x hx).1,?_⟩,h.d⟩;obtain ⟨h1,h2⟩:=h.z x hx;rw [hg.block x.b (zG h2) (fun e=>by
  obtain ⟨cur,hcur⟩:=hrow.type e.symm;rw [h2] at hcur;exact absurd (zBI hcur) (by decide))]
 exact h2
theorem Zs.set (h:Zs w1 wr N) {p:Addr} (hp:p.block<w1.heap.size) (u:Value):Zs w1 (wr.setCell p u) N:=
 ⟨fun x hx=>⟨(h.z x hx).1,by rw [Below.heap_setCell _ _ _ _ (by have:=(h.z x hx).1;omega)];exact (h.z x hx).2⟩,h.d⟩
theorem Zs.from_ (h:Zs w1 wr N) (hs:w.heap.size≤w1.heap.size):Zs w wr N:=⟨fun x hx=>⟨by have:=(h.z x hx).1;omega,(h.z x hx).2⟩,h.d⟩
def LaidP (w w':World) (P P':List Pg) (s t p:Int):Prop:=∃ k N,P'=(outP P s t).take k++N++(outP P s t).drop k∧News p s t N∧Zs w w' N
def zKi (P P':List Pg) (s t p:Int):Prop:=∀ a q,OnP P' a q↔(s≤a∧a<t∧p=q)∨((a<s∨t≤a)∧OnP P a q)
def LayOk (mo b0 b1:Int) (w:World) (sb:Nat) (P:List Pg) (s t p:Int) (w':World):Prop:=∃ P',zGQ w.heap.size mo b0 b1 w' sb P'∧Pgs 67108864 P'∧zKi P P' s t p∧LaidP w w' P P' s t p∧Fr (only sb) w w'∧(P'.length:Int)≤mo∧(regs P').length≤256∧(P'.length:Int)=(outP P s t).length+(t - s)/4096
def LayNo (mo:Int) (w:World) (P:List Pg) (s t p:Int) (w':World):Prop:=Bl w w'∧(mo<(outP P s t).length+(t - s)/4096∨∃ P',Pgs 67108864 P'∧zKi P P' s t p∧256<(regs P').length)
def zFP (mo b0 b1:Int) (w:World) (sb:Nat) (P:List Pg) (s t p:Int) (e:Ending) (w':World):Prop:=∃ r,e=.returned (.int .i64 r)∧((r=0∧LayOk mo b0 b1 w sb P s t p w')∨(r=12∧LayNo mo w P s t p w'))
structure LR (w1:World) (R:List Pg) (s:Int) (k:Nat) (v:Value) (wr:World):Prop where
 row:PRow wr w1.heap.size v (R.take k)
 low:∀ x,x∈R.take k→x.no*4096<s
 bl:Bl w1 wr
structure LN (w1:World) (R:List Pg) (p s:Int) (k:Nat) (a:Int) (v:Value) (wr:World):Prop where
 row:∃ N,News p s a N∧PRow wr w1.heap.size v (R.take k++N)∧Zs w1 wr N
 bl:Bl w1 wr
theorem LN.push {R:List Pg} {s:Int} {v:Value} (h:LN w1 R p s k a v wr) (hs:s%4096=0) (ha:a<s+33554432) (hR:R.length≤5000):
  ∃ v' W',(Builtin.append_ #[81,81] 81 #[v,.slice (some ⟨wr.heap.size+1,0,none⟩) 1 1]).run prog ((wr.alloc (.cells (zJ (List.replicate 4096 0)).toArray 5)).alloc (.cells #[.int .u64 (a/4096),.int .i64 p,.slice (some ⟨wr.heap.size,0,none⟩) 4096 4096] 87))=.ok v' W'∧LN w1 R p s k (a+4096) v' W':=by
 obtain ⟨⟨N,hN,hrow,hz⟩,hbl⟩:=h;have k2:Bl wr ((wr.alloc (.cells (zJ (List.replicate 4096 0)).toArray 5)).alloc (.cells #[.int .u64 (a/4096),.int .i64 p,.slice (some ⟨wr.heap.size,0,none⟩) 4096 4096] 87)):=(Bl.new _ _).trans (Bl.new _ _);have hrow2:=hrow.bl k2;have hb2:=hbl.trans k2;have hz2:=hz.bl k2;have h1:=hN.1;have hnew:((wr.alloc (.cells (zJ (List.replicate 4096 0)).toArray 5)).alloc (.cells #[.int .u64 (a/4096),.int .i64 p,.slice (some ⟨wr.heap.size,0,none⟩) 4096 4096] 87)).heap[wr.heap.size]?=some zero4:=(Bl.new _ _).at_ (heap_alloc_new wr _);have hz3:Zs w1 ((wr.alloc (.cells (zJ (List.replicate 4096 0)).toArray 5)).alloc (.cells #[.int .u64 (a/4096),.int .i64 p,.slice (some ⟨wr.heap.size,0,none⟩) 4096 4096] 87)) (N++[⟨a/4096,p,wr.heap.size⟩]):=by
  refine ⟨fun x hx=>?_,List.pairwise_append.2 ⟨hz2.d,List.pairwise_singleton _ _,fun x hx y hy=>?_⟩⟩
  ·rcases List.mem_append.1 hx with hx|hx
   ·exact hz2.z x hx
   ·simp only [List.mem_singleton] at hx;subst hx;exact ⟨hbl.size,hnew⟩
  ·simp only [List.mem_singleton] at hy;subst hy
   have:=zG (hz.z x hx).2
   simp only;omega
 obtain ⟨v',W',hrun,hrow3,hgr,_⟩:=zFw hrow2 ⟨a/4096,p,wr.heap.size⟩ (wr.heap.size+1) 81 (by
  have:=heap_alloc_new (wr.alloc (.cells (zJ (List.replicate 4096 0)).toArray 5)) (.cells #[.int .u64 (a/4096),.int .i64 p,.slice (some ⟨wr.heap.size,0,none⟩) 4096 4096] 87)
  rw [show (wr.alloc (.cells (zJ (List.replicate 4096 0)).toArray 5)).heap.size=wr.heap.size+1 by simp] at this;exact this) (by rw [List.length_append,List.length_take];omega) hb2.size
 refine ⟨v',W',hrun,⟨⟨N++[⟨a/4096,p,wr.heap.size⟩],hN.push _ (by simp only;omega) rfl,by rw [← List.append_assoc];exact hrow3,hz3.grown hrow2 hgr⟩,Below.grown hb2 hgr hb2.size (fun q hq=>(hrow2.lt q hq).1)⟩⟩
theorem rlay_far (sb:Nat) (P:List Pg) (s t p:Int) (h0:0≤s) (hst:s≤t) (ht:t≤274877906944) (hd:8192<(t - s)/4096) (hmo:mo≤4096):
  Calls prog 25 #[zB sb,.int .u64 s,.int .u64 t,.int .i64 p] w (zFP mo b0 b1 w sb P s t p):=by
 have hfin:LayNo mo w P s t p w:=⟨Bl.refl _,.inl (by omega)⟩;have HF:=hid hfin;clear hfin;unfold zB at *;go_enter func25,ntmps25;go_wp2_with fail;go_ret;exact ⟨12,rfl,.inr ⟨rfl,HF.out⟩⟩
theorem rlay_full (h:zAm mo b0 b1 w sb P) (hp:Pgs 67108864 P) (hl:P.length≤5000) (s t p:Int) (h0:0≤s) (hst:s≤t) (ht:t≤274877906944) (hd:(t - s)/4096≤8192) (hmo:0≤mo) (hmo1:mo≤4096) (hf:mo<(outP P s t).length+(t - s)/4096):
  Calls prog 25 #[zB sb,.int .u64 s,.int .u64 t,.int .i64 p] w (zFP mo b0 b1 w sb P s t p):=by
 have cw:=zFU h hp hl s t;have ho:=zHQ P s t;have HH:=hid h;clear h;have HCW:=hid cw;clear cw;have HFF:=hid hf;have HP:=hid hp;clear hp;have HHL:=hid hl;have hd0:0≤(t - s)/4096:=by omega
 unfold zB at *;go_enter func25,ntmps25;go_wp2_with fail;refine HCW.out.mono ?_;rintro e w1 ⟨v1,rfl,r1,k1⟩;obtain ⟨A,cap,hv1⟩:=r1.shape;subst hv1;obtain ⟨n,hn⟩:∃ n,n=(outP P s t).length:=⟨_,rfl⟩;rw [← hn] at r1 hf ho ⊢;have HN:=hid hn;clear hn;obtain ⟨AS,capS,e0,e1,_⟩:=(HH.out.bl k1).cells;clear e0;have hnI:(n:Int)≤5000:=by omega
 have K1:=hid k1;clear k1 r1 hl ho;go_wp2_with fail;go_ret;exact ⟨12,rfl,.inr ⟨rfl,K1.out,.inl HFF.out⟩⟩
theorem rlay_in (h:zAm mo b0 b1 w sb P) (hp:Pgs 67108864 P) (hl:P.length≤5000) (s t p:Int) (h0:0≤s) (hs:Span s t) (hmo:mo≤4096) (hcnt:(outP P s t).length+(t - s)/4096≤mo):
  Calls prog 25 #[zB sb,.int .u64 s,.int .u64 t,.int .i64 p] w (zFP mo b0 b1 w sb P s t p):=by
 obtain ⟨s1,s2,s3,s4⟩:=hs;have hfz:=h.frozen 0;have cw:=zFU h hp hl s t;have hsblt:=h.lt;have HH:=hid h;clear h;have HP:=hid hp;clear hp;have HS1:=hid s1;clear s1;have HS2:=hid s2;clear s2;have HCW:=hid cw;clear cw;have HCNT:=hid hcnt;clear hcnt;have HHL:=hid hl;clear hl;have hd0:0≤(t - s)/4096:=by omega
 have hdd:(t - s)/4096≤4096:=by have:=HCNT.out;omega
 have hst:s≤t:=by omega
 have HFZ:=hid hfz;clear hfz;have HLT:=hid hsblt;clear hsblt;have hmk:∀ W,(Instr.makeSlice 22 (.int .i64 4096) (.int .i64 4096)).run prog W=.ok (.slice (some ⟨W.heap.size,0,none⟩) 4096 4096) (W.alloc (.cells (zJ (List.replicate 4096 0)).toArray 5)):=fun W=>made29 4096 (by omega) W
 have HMK:=hid hmk;clear hmk;unfold zB at *;go_enter func25,ntmps25;go_wp2_with fail;refine HCW.out.mono ?_;rintro e w1 ⟨v1,rfl,r1,k1⟩;obtain ⟨R,hR⟩:∃ R,R=outP P s t:=⟨_,rfl⟩;rw [← hR] at r1 HCNT;have HR:=hid hR;clear hR;obtain ⟨A,cap,hv1⟩:=r1.shape;subst hv1;obtain ⟨n,hn⟩:∃ n,n=R.length:=⟨_,rfl⟩;rw [← hn] at r1 HCNT ⊢;have HN:=hid hn;clear hn;have hcI:=HCNT.out;have hnI:(n:Int)≤4096:=by omega
 have hcI2:(n:Int)+(t - s)/4096≤mo:=by omega
 have hmo0:0≤mo:=by omega
 clear hcI;obtain ⟨AS,capS,e0,e1,_⟩:=(HH.out.bl k1).cells;clear e0;have R1:=hid r1;clear r1;have K1:=hid k1;clear k1;go_wp2_with fail;clear e1
 go_loopw [10,11] (fun v10 i wr=>∃ k:Nat,k≤n∧i=.int .i64 k∧LR w1 R s k v10 wr) (fun _ i _=>n - (intOf i).toNat)
 case atStart=>exact ⟨0,by omega,rfl,⟨RowG.nil,fun x hx=>by simp at hx,Bl.refl _⟩⟩
 case round =>
  obtain ⟨k,hk,rfl,hlr⟩:=hrel;have HLR:=hid hlr;clear hlr;have hkI:(k:Int)≤(n:Int):=by omega
  by_cases hlt:k<n
  ·have hltL:k<R.length:=by have:=HN.out;omega
   obtain ⟨x,hx⟩:∃ x,R[k]?=some x:=⟨R[k],List.getElem?_eq_getElem hltL⟩;have hne:R≠[]:=by intro e;rw [e] at hltL;simp at hltL
   obtain ⟨g,cap',cur,hA,_,hnc,hg,_⟩:=R1.out.form hne;have hA':A=some ⟨g,0,none⟩:=by injection hA
   subst hA';obtain ⟨c0,c1,c2⟩:=zAz (R1.out.bl HLR.out.bl) k x hx;clear hA hnc hg hne hltL;have hxm:x∈outP P s t:=by rw [← HR.out];exact List.mem_of_getElem? hx
   obtain ⟨x1,x2⟩:=HP.out.2 x (zCo.1 hxm).1;have x3:x.no<67108864:=x2;clear hxm x2;have hltI:(k:Int)<(n:Int):=by omega
   by_cases hc:x.no*4096<s
   ·have hrow2:=HLR.out.row.bl (Bl.new _ (.cells #[.int .u64 x.no,.int .i64 x.p,.slice (some ⟨x.b,0,none⟩) 4096 4096] 87));have hb2:Bl w1 (wr.alloc (.cells #[.int .u64 x.no,.int .i64 x.p,.slice (some ⟨x.b,0,none⟩) 4096 4096] 87)):=HLR.out.bl.alloc _;obtain ⟨v',W',hrun,hrow3,hgr,_⟩:=zFw hrow2 x wr.heap.size 81 (heap_alloc_new wr _) (by rw [List.length_take];omega) hb2.size;have hlr2:LR w1 R s (k+1) v' W':=⟨by rw [List.take_add_one,hx];exact hrow3,fun y hy=>by
     rw [List.take_add_one,hx] at hy;rcases List.mem_append.1 hy with hy|hy
     ·exact HLR.out.low y hy
     ·simp at hy;subst hy;exact hc,Below.grown hb2 hgr hb2.size (fun q hq=>(hrow2.lt q hq).1)⟩
    have HLR2:=hid hlr2;clear hlr2 hrow3 hrow2 hb2 hgr hx;have HRUN:=hid hrun;clear hrun;go_wp2_with (first|(at_builtin;refine zY rfl (.tmp 52) (.tmp 57) 81 rfl _ _ _ rfl rfl HRUN.out ?_));refine ⟨⟨k+1,by omega,by go_num,HLR2.out⟩,?_⟩;simp only [intOf];omega
   ·have hc2:s≤x.no*4096:=by omega
    have hsp:∀ y,y∈R.drop k→t≤y.no*4096:=fun y hy=>by
     have h1:=split_at (by rw [HR.out];exact zIz HP.out) s k (fun z hz=>by rw [hx] at hz;cases hz;exact hc2) y hy;have h2:=(zCo.1 (by rw [← HR.out];exact List.mem_of_mem_drop hy:y∈outP P s t)).2;omega
    have HSP:=hid hsp;clear hsp hx;go_upto_region 11 with (fail);clear c0 c1 c2 hc hc2 x1 x3;obtain ⟨V,hV⟩:∃ V,V=wr:=⟨_,rfl⟩;subst hV;have hln0:LN w1 R p s k s _ V:=⟨⟨[],News.nil p s,by simpa using HLR.out.row,Zs.nil _ _⟩,HLR.out.bl⟩;have HLN0:=hid hln0;clear hln0;have HLOW:=hid HLR.out.low;clear HLR;go_wp2_with fail
    go_loopw [10,12] (fun v10 v12 wr=>∃ a:Int,v12=.int .u64 a∧s≤a∧a≤t∧a%4096=0∧LN w1 R p s k a v10 wr) (fun _ v12 _=>(t - intOf v12).toNat)
    case atStart=>exact ⟨s,rfl,by omega,hst,HS1.out,HLN0.out⟩
    case round =>
     obtain ⟨a,rfl,a1,a2,a3,hln⟩:=hrel;clear HLN0;have HLN:=hid hln;clear hln;have HA3:=hid a3;clear a3;by_cases hat:a<t
     ·obtain ⟨v',W',hrun,hln2⟩:=HLN.out.push HS1.out (by omega) (by have:=HN.out;omega);have HLN2:=hid hln2;clear hln2;have HRUN:=hid hrun;clear hrun;have hm:=HMK.out;go_wp2_with (first|(at_builtin;refine zY rfl (.tmp 65) (.tmp 71) 81 rfl _ _ _ rfl rfl HRUN.out ?_));refine ⟨⟨a+4096,rfl,by omega,by have:=HA3.out;have:=HS2.out;omega,by have:=HA3.out;omega,HLN2.out⟩,?_⟩;simp only [intOf];omega
     ·obtain rfl:a=t:=by omega
      obtain ⟨⟨N,hN,hrow,hzs⟩,hbl⟩:=HLN.out;obtain ⟨p1,p2,p3,p4⟩:=zGp (k:=k) (R1.out.bl hbl) hk;have hsl:=fun W=>zGh (some (⟨g,0,none⟩:Addr)) n cap k hk p2 W
      obtain ⟨A',hA'⟩:∃ A',A'=(if cap=k then (some (⟨g,0,none⟩:Addr)) else Option.map (·.add (k*3)) (some (⟨g,0,none⟩:Addr))):=⟨_,rfl⟩;obtain ⟨mm,hmm⟩:∃ mm,mm=n - k:=⟨_,rfl⟩;obtain ⟨cc,hcc⟩:∃ cc,cc=cap - k:=⟨_,rfl⟩;rw [← hA'] at p3 p4;rw [← hcc] at p3;simp only [← hA',← hmm,← hcc] at hsl;have hN1:=hN.1;obtain ⟨v5,W5,hrun,hrow5,hgr,_⟩:=zDn hrow 81 A' (R.drop k) mm cc (by rw [List.length_drop,hmm,p1]) p3 p4 (by rw [List.length_append,List.length_take,List.length_drop];omega) hbl.size;have hbl5:Bl w1 W5:=Below.grown hbl hgr hbl.size (fun q hq=>(hrow.lt q hq).1);have hzs5:=hzs.grown hrow hgr;have hpg:=zJK (p:=p) HP.out h0 HS1.out HS2.out s3 (by omega:a≤((67108864:Nat):Int)*4096) hN k (by rw [← HR.out];exact HLOW.out) (by rw [← HR.out];exact HSP.out);rw [← HR.out] at hpg;obtain ⟨P',hP'⟩:∃ P',P'=R.take k++N++R.drop k:=⟨_,rfl⟩;have hcount:(P'.length:Int)=n+(a - s)/4096:=by
       rw [hP',List.length_append,List.length_append,List.length_take,List.length_drop];omega
      rw [← hP'] at hpg hrow5;have HSL:=hid hsl;clear hsl;have HRUN:=hid hrun;clear hrun;have HROW5:=hid hrow5;clear hrow5;have HBL5:=hid (K1.out.trans hbl5);have HZS:=hid (hzs5.from_ K1.out.size);clear hzs hzs5 hbl5;have HPG:=hid hpg;clear hpg;have HP2:=hid hP';have HNN:=hid hN;clear hP' p1 p2 p3 p4 hN hN1 hrow hbl hgr hA' hmm hcc;have hm:=HSL.out;go_upto_region 16 with (first|(at_builtin;refine zY rfl (.tmp 73) (.tmp 76) 81 rfl _ _ _ rfl rfl HRUN.out ?_));clear hm;obtain ⟨A5,cap5,hv5⟩:=HROW5.out.shape;have hl5:P'.length≤5000:=by omega
      have hl5m:(P'.length:Int)≤mo:=by omega
      have HC5:=hid hcount;have HL5:=hid hl5;have HL5M:=hid hl5m;obtain ⟨n5,hn5⟩:∃ n5,n5=P'.length:=⟨_,rfl⟩;rw [← hn5] at hv5 hl5 hl5m;subst hv5;clear hn5 hcount;obtain ⟨rl,hrl⟩:∃ rl,rl=(regs P').length:=⟨_,rfl⟩;have hrl5:=(zEA HPG.out.1 (by omega)).2.2.2;rw [← hrl] at hrl5;have hrlI:(rl:Int)≤5000:=by have:=HL5.out;omega
      have HRL:=hid hrl;clear hrl hrl5;go_wp2_with fail;refine (zFk HROW5.out HPG.out.1 HL5.out).mono ?_;rintro e W6 ⟨v6,rfl,r6,k6⟩;obtain ⟨A6,cap6,hv6⟩:=r6.shape;rw [← HRL.out] at hv6;subst hv6;have HBL6:=hid (HBL5.out.trans k6);have HZS6:=hid (HZS.out.bl k6);have HROW6:=hid (HROW5.out.bl k6);clear k6 r6;obtain ⟨AS,capS,e0,e1,_⟩:=(HH.out.bl HBL6.out).cells;have f0:W6.frozen? ⟨sb,0,none⟩=false:=by rw [HBL6.out.frozen (p:=⟨sb,0,none⟩) HLT.out];exact HFZ.out
      by_cases hfew:rl≤256
      ·have hfewI:(rl:Int)≤256:=by omega
       go_wp2_with fail;go_ret;refine ⟨0,rfl,.inl ⟨rfl,P',(HH.out.bl HBL6.out).zJl HROW6.out K1.out.size,HPG.out.1,HPG.out.2,⟨k,N,by rw [← HR.out];exact HP2.out,HNN.out,HZS6.out.set (by exact HLT.out) _⟩,(Fr.zP HBL6.out).trans (Fr.set (by exact rfl) _),HL5M.out,by rw [← HRL.out];exact hfew,by rw [HC5.out,← HR.out,← HN.out]⟩⟩
      ·have hfewI:256<(rl:Int):=by omega
       go_wp2_with fail;go_ret;exact ⟨12,rfl,.inr ⟨rfl,HBL6.out,.inr ⟨P',HPG.out.1,HPG.out.2,by rw [← HRL.out];omega⟩⟩⟩
  ·have hge:n≤k:=by omega
   have hgeI:(n:Int)≤(k:Int):=by omega
   have hsp:∀ y,y∈R.drop k→t≤y.no*4096:=fun y hy=>by
    rw [List.drop_of_length_le (by rw [← HN.out];exact hge)] at hy;cases hy
   have HSP:=hid hsp;clear hsp;go_upto_region 11 with (fail);obtain ⟨V,hV⟩:∃ V,V=wr:=⟨_,rfl⟩;subst hV;have hln0:LN w1 R p s k s _ V:=⟨⟨[],News.nil p s,by simpa using HLR.out.row,Zs.nil _ _⟩,HLR.out.bl⟩;have HLN0:=hid hln0;clear hln0;have HLOW:=hid HLR.out.low;clear HLR;go_wp2_with fail
   go_loopw [10,12] (fun v10 v12 wr=>∃ a:Int,v12=.int .u64 a∧s≤a∧a≤t∧a%4096=0∧LN w1 R p s k a v10 wr) (fun _ v12 _=>(t - intOf v12).toNat)
   case atStart=>exact ⟨s,rfl,by omega,hst,HS1.out,HLN0.out⟩
   case round =>
    obtain ⟨a,rfl,a1,a2,a3,hln⟩:=hrel;clear HLN0;have HLN:=hid hln;clear hln;have HA3:=hid a3;clear a3;by_cases hat:a<t
    ·obtain ⟨v',W',hrun,hln2⟩:=HLN.out.push HS1.out (by omega) (by have:=HN.out;omega);have HLN2:=hid hln2;clear hln2;have HRUN:=hid hrun;clear hrun;have hm:=HMK.out;go_wp2_with (first|(at_builtin;refine zY rfl (.tmp 65) (.tmp 71) 81 rfl _ _ _ rfl rfl HRUN.out ?_));refine ⟨⟨a+4096,rfl,by omega,by have:=HA3.out;have:=HS2.out;omega,by have:=HA3.out;omega,HLN2.out⟩,?_⟩;simp only [intOf];omega
    ·obtain rfl:a=t:=by omega
     obtain ⟨⟨N,hN,hrow,hzs⟩,hbl⟩:=HLN.out;obtain ⟨p1,p2,p3,p4⟩:=zGp (k:=k) (R1.out.bl hbl) hk;have hsl:=fun W=>zGh A n cap k hk p2 W
     obtain ⟨A',hA'⟩:∃ A',A'=(if cap=k then A else Option.map (·.add (k*3)) A):=⟨_,rfl⟩;obtain ⟨mm,hmm⟩:∃ mm,mm=n - k:=⟨_,rfl⟩;obtain ⟨cc,hcc⟩:∃ cc,cc=cap - k:=⟨_,rfl⟩;rw [← hA'] at p3 p4;rw [← hcc] at p3;simp only [← hA',← hmm,← hcc] at hsl;have hN1:=hN.1;obtain ⟨v5,W5,hrun,hrow5,hgr,_⟩:=zDn hrow 81 A' (R.drop k) mm cc (by rw [List.length_drop,hmm,p1]) p3 p4 (by rw [List.length_append,List.length_take,List.length_drop];omega) hbl.size;have hbl5:Bl w1 W5:=Below.grown hbl hgr hbl.size (fun q hq=>(hrow.lt q hq).1);have hzs5:=hzs.grown hrow hgr;have hpg:=zJK (p:=p) HP.out h0 HS1.out HS2.out s3 (by omega:a≤((67108864:Nat):Int)*4096) hN k (by rw [← HR.out];exact HLOW.out) (by rw [← HR.out];exact HSP.out);rw [← HR.out] at hpg;obtain ⟨P',hP'⟩:∃ P',P'=R.take k++N++R.drop k:=⟨_,rfl⟩;have hcount:(P'.length:Int)=n+(a - s)/4096:=by
      rw [hP',List.length_append,List.length_append,List.length_take,List.length_drop];omega
     rw [← hP'] at hpg hrow5;have HSL:=hid hsl;clear hsl;have HRUN:=hid hrun;clear hrun;have HROW5:=hid hrow5;clear hrow5;have HBL5:=hid (K1.out.trans hbl5);have HZS:=hid (hzs5.from_ K1.out.size);clear hzs hzs5 hbl5;have HPG:=hid hpg;clear hpg;have HP2:=hid hP';have HNN:=hid hN;clear hP' p1 p2 p3 p4 hN hN1 hrow hbl hgr hA' hmm hcc;have hm:=HSL.out;go_upto_region 16 with (first|(at_builtin;refine zY rfl (.tmp 73) (.tmp 76) 81 rfl _ _ _ rfl rfl HRUN.out ?_));clear hm;obtain ⟨A5,cap5,hv5⟩:=HROW5.out.shape;have hl5:P'.length≤5000:=by omega
     have hl5m:(P'.length:Int)≤mo:=by omega
     have HC5:=hid hcount;have HL5:=hid hl5;have HL5M:=hid hl5m;obtain ⟨n5,hn5⟩:∃ n5,n5=P'.length:=⟨_,rfl⟩;rw [← hn5] at hv5 hl5 hl5m;subst hv5;clear hn5 hcount;obtain ⟨rl,hrl⟩:∃ rl,rl=(regs P').length:=⟨_,rfl⟩;have hrl5:=(zEA HPG.out.1 (by omega)).2.2.2;rw [← hrl] at hrl5;have hrlI:(rl:Int)≤5000:=by have:=HL5.out;omega
     have HRL:=hid hrl;clear hrl hrl5;go_wp2_with fail;refine (zFk HROW5.out HPG.out.1 HL5.out).mono ?_;rintro e W6 ⟨v6,rfl,r6,k6⟩;obtain ⟨A6,cap6,hv6⟩:=r6.shape;rw [← HRL.out] at hv6;subst hv6;have HBL6:=hid (HBL5.out.trans k6);have HZS6:=hid (HZS.out.bl k6);have HROW6:=hid (HROW5.out.bl k6);clear k6 r6;obtain ⟨AS,capS,e0,e1,_⟩:=(HH.out.bl HBL6.out).cells;have f0:W6.frozen? ⟨sb,0,none⟩=false:=by rw [HBL6.out.frozen (p:=⟨sb,0,none⟩) HLT.out];exact HFZ.out
     by_cases hfew:rl≤256
     ·have hfewI:(rl:Int)≤256:=by omega
      go_wp2_with fail;go_ret;refine ⟨0,rfl,.inl ⟨rfl,P',(HH.out.bl HBL6.out).zJl HROW6.out K1.out.size,HPG.out.1,HPG.out.2,⟨k,N,by rw [← HR.out];exact HP2.out,HNN.out,HZS6.out.set (by exact HLT.out) _⟩,(Fr.zP HBL6.out).trans (Fr.set (by exact rfl) _),HL5M.out,by rw [← HRL.out];exact hfew,by rw [HC5.out,← HR.out,← HN.out]⟩⟩
     ·have hfewI:256<(rl:Int):=by omega
      go_wp2_with fail;go_ret;exact ⟨12,rfl,.inr ⟨rfl,HBL6.out,.inr ⟨P',HPG.out.1,HPG.out.2,by rw [← HRL.out];omega⟩⟩⟩
theorem rlay_any (h:zAm mo b0 b1 w sb P) (hp:Pgs 67108864 P) (hl:P.length≤5000) (s t p:Int) (h0:0≤s) (hs:Span s t) (hmo0:0≤mo) (hmo:mo≤4096):
  Calls prog 25 #[zB sb,.int .u64 s,.int .u64 t,.int .i64 p] w (zFP mo b0 b1 w sb P s t p):=by
 have hs2:=hs;obtain ⟨s1,s2,s3,s4⟩:=hs2;by_cases h1:8192<(t - s)/4096
 ·exact rlay_far sb P s t p h0 (by omega) (by omega) h1 hmo
 ·by_cases h2:mo<(outP P s t).length+(t - s)/4096
  ·exact rlay_full h hp hl s t p h0 (by omega) (by omega) (by omega) hmo0 hmo h2
  ·exact rlay_in h hp hl s t p h0 hs hmo (by omega)
end
section
open Go.RowKit
def zCE (M:Nat→Int) (no:Int):Obj:=.cells (zJ (zBD M no.toNat)).toArray 5 (0,0)
structure RP (S:Nat→Prop) (w:World) (rb:Nat) (P:List Pg) (M:Nat→Int) (mo b0 b1:Int):Prop where
 sp:∃ v,w.heap[rb]?=some (.cells #[v,.int .i64 mo,.int .u64 b0,.int .u64 b1] 83 (0,0))∧PRow w 0 v P∧∀ g,v.ownBlock=some g→S g
 own:S rb
 pgs:Pgs 67108864 P
 pr:∀ x,x∈P→0≤x.p∧x.p≤7
 len:(P.length:Int)≤mo
 mo_:0≤mo∧mo≤4096
 by_:∀ x,0≤M x∧M x≤255
 pages:∀ x,x∈P→S x.b∧w.heap[x.b]?=some (zCE M x.no)
 apart:P.Pairwise fun x y=>x.b≠y.b
 out:∀ a:Nat,(∀ q,¬ OnP P a q)→M a=0
section
variable {S:Nat→Prop} {w w':World} {rb:Nat} {P:List Pg} {M:Nat→Int} {mo b0 b1:Int}
theorem RP.space (h:RP S w rb P M mo b0 b1):zAm mo b0 b1 w rb P:=by
 obtain ⟨v,h1,h2,_⟩:=h.sp;exact ⟨v,h1,h2⟩
theorem RP.lt (h:RP S w rb P M mo b0 b1):rb<w.heap.size:=h.space.lt
theorem RP.few (h:RP S w rb P M mo b0 b1):P.length≤4096:=by have:=h.len;have:=h.mo_;omega
theorem RP.block (h:RP S w rb P M mo b0 b1) (hb:∀ b,b<w.heap.size→S b→w'.heap[b]?=w.heap[b]?):RP S w' rb P M mo b0 b1:=by
 obtain ⟨v,h1,h2,h3⟩:=h.sp;refine ⟨⟨v,by rw [hb rb h.lt h.own];exact h1,h2.kept fun g hg=>hb g (h2.lt g hg).2 (h3 g hg),h3⟩,h.own,h.pgs,h.pr,h.len,h.mo_,h.by_,fun x hx=>?_,h.apart,h.out⟩;obtain ⟨h4,h5⟩:=h.pages x hx;exact ⟨h4,by rw [hb x.b (zG h5) h4];exact h5⟩
theorem RP.bl (h:RP S w rb P M mo b0 b1) (k:Bl w w'):RP S w' rb P M mo b0 b1:=h.block fun b hb _=>k.block b hb
variable {U:Nat→Prop}
theorem RP.kept (h:RP S w rb P M mo b0 b1) (hf:Fr U w w') (hd:∀ b,b<w.heap.size→S b→¬ U b):RP S w' rb P M mo b0 b1:=h.block fun b hb hS=>hf.block b hb (hd b hb hS)
theorem RP.among (h:RP S w rb P M mo b0 b1) (hs:∀ b,b<w.heap.size→S b→U b):RP U w rb P M mo b0 b1:=by
 obtain ⟨v,h1,h2,h3⟩:=h.sp;refine ⟨⟨v,h1,h2,fun g hg=>hs g (h2.lt g hg).2 (h3 g hg)⟩,hs rb h.lt h.own,h.pgs,h.pr,h.len,h.mo_,h.by_,fun x hx=>?_,h.apart,h.out⟩;obtain ⟨h4,h5⟩:=h.pages x hx;exact ⟨hs _ (zG h5) h4,h5⟩
end
def AtIs (P:List Pg) (no:Int) (j:Nat) (ok:Bool):Prop:=(ok=true∧∃ x,P[j]?=some x∧x.no=no)∨(ok=false∧∀ x,x∈P→x.no≠no)
def RAtPost (w:World) (P:List Pg) (no:Int) (e:Ending) (w':World):Prop:=∃ (j:Nat) (ok:Bool),e=.returned (.tuple #[.int .i64 j,.bool ok])∧AtIs P no j ok∧Bl w w'
def zDI (P:List Pg) (no:Int) (lo hi:Nat):Prop:=∀ i x,P[i]?=some x→(i<lo→x.no<no)∧(hi≤i→no≤x.no)
theorem zDI.low {lo hi:Nat} {x:Pg} (h:zDI P no lo hi) (hp:Pgs 67108864 P) (hx:P[m]?=some x) (hn:x.no<no):zDI P no (m+1) hi:=fun i y hy=>by
 refine ⟨fun hi'=>?_,(h i y hy).2⟩;rcases Nat.lt_or_ge i m with h1|h1
 ·have h2:=(List.getElem?_eq_some_iff.1 hy).1;have h3:=(List.getElem?_eq_some_iff.1 hx).1
  have:=List.pairwise_iff_getElem.1 hp.1 i m h2 h3 h1
  rw [(List.getElem?_eq_some_iff.1 hy).2,(List.getElem?_eq_some_iff.1 hx).2] at this;omega
 ·obtain rfl:i=m:=by omega
  rw [hx] at hy;cases hy;exact hn
theorem zDI.high {lo hi:Nat} {x:Pg} (h:zDI P no lo hi) (hp:Pgs 67108864 P) (hx:P[m]?=some x) (hn:no≤x.no):zDI P no lo m:=fun i y hy=>by
 refine ⟨(h i y hy).1,fun hi'=>?_⟩;rcases Nat.lt_or_ge m i with h1|h1
 ·have h2:=(List.getElem?_eq_some_iff.1 hy).1;have h3:=(List.getElem?_eq_some_iff.1 hx).1
  have:=List.pairwise_iff_getElem.1 hp.1 m i h3 h2 h1
  rw [(List.getElem?_eq_some_iff.1 hy).2,(List.getElem?_eq_some_iff.1 hx).2] at this;omega
 ·obtain rfl:i=m:=by omega
  rw [hx] at hy;cases hy;exact hn
theorem zDI.yes {x:Pg} (hx:P[k]?=some x) (e:x.no=no):AtIs P no k true:=.inl ⟨rfl,x,hx,e⟩
theorem zDI.no_ (h:zDI P no k k) (hp:Pgs 67108864 P) (hx:∀ x,P[k]?=some x→x.no≠no):AtIs P no k false:=by
 refine .inr ⟨rfl,fun x hm e=>?_⟩;obtain ⟨i,hi,rfl⟩:=List.mem_iff_getElem.1 hm;have hg:P[i]?=some P[i]:=List.getElem?_eq_getElem hi;obtain ⟨h1,h2⟩:=h i _ hg;rcases Nat.lt_trichotomy i k with h3|h3|h3
 ·have:=h1 h3;omega
 ·subst h3;exact hx _ hg e
 ·have hk:k<P.length:=by omega
  have hgk:P[k]?=some P[k]:=List.getElem?_eq_getElem hk;have h4:=(h k _ hgk).2 (Nat.le_refl _);have h5:=List.pairwise_iff_getElem.1 hp.1 k i hk hi h3;omega
variable {w:World}
theorem rp_at (h:zAm mo b0 b1 w rb P) (hp:Pgs 67108864 P) (hl:P.length≤5000) (no:Int):
  Calls prog 73 #[zB rb,.int .u64 no] w (RAtPost w P no):=by
 obtain ⟨A,cap,c0,_,hrow⟩:=h.cells;have HROW:=hid hrow;clear hrow h;have HP:=hid hp;clear hp;obtain ⟨n,hn⟩:∃ n,n=P.length:=⟨_,rfl⟩;rw [← hn] at c0 HROW hl;have HN:=hid hn;clear hn;have hlI:(n:Int)≤5000:=by omega
 unfold zB;go_enter func73,ntmps73;go_wp2_with fail
 go_loop [6,7,8] (fun i j _=>∃ lo hi:Nat,lo≤hi∧hi≤n∧i=.int .i64 lo∧j=.int .i64 hi∧zDI P no lo hi) (fun i j _=>(intOf j - intOf i).toNat)
 case atStart=>exact ⟨0,n,by omega,by omega,rfl,rfl,fun i x hx=>⟨fun h=>absurd h (by omega),fun h=>absurd (List.getElem?_eq_some_iff.1 hx).1 (by have:=HN.out;omega)⟩⟩
 case round =>
  obtain ⟨lo,hi,h1,h2,rfl,rfl,hh⟩:=hrel;have HH:=hid hh;clear hh;have hiI:(hi:Int)≤5000:=by omega
  by_cases hlt:lo<hi
  ·obtain ⟨m,hm⟩:∃ m,m=(lo+hi)/2:=⟨_,rfl⟩;have hm1:((lo:Int)+(hi:Int))/2=(m:Int):=by omega
   have hmlo:lo≤m:=by omega
   have hmhi:m<hi:=by omega
   have hltL:m<P.length:=by have:=HN.out;omega
   obtain ⟨x,hx⟩:∃ x,P[m]?=some x:=⟨P[m],List.getElem?_eq_getElem hltL⟩;have hne:P≠[]:=by intro e;rw [e] at hltL;simp at hltL
   obtain ⟨g,cap',cur,hA,_,hnc,hg,_⟩:=HROW.out.form hne;have hA':A=some ⟨g,0,none⟩:=by injection hA
   subst hA';obtain ⟨d0,d1,d2⟩:=zAz HROW.out m x hx;clear hA hnc hg hne hltL hm d1 d2;have hltI:(lo:Int)<(hi:Int):=by omega
   have hmI:(m:Int)<(n:Int):=by omega
   have hmI0:(0:Int)≤(m:Int):=by omega
   by_cases hc:x.no<no
   ·have hh2:=HH.out.low HP.out hx hc;have HH2:=hid hh2;clear hh2 hx;go_wp2_with fail
    go_round
    case rel=>exact ⟨m+1,hi,by omega,h2,by go_num,rfl,HH2.out⟩
    case measure=>simp only [intOf];omega
   ·have hc2:no≤x.no:=by omega
    have hh2:=HH.out.high HP.out hx hc2;have HH2:=hid hh2;clear hh2 hx;go_wp2_with fail
    go_round
    case rel=>exact ⟨lo,m,hmlo,by omega,rfl,by go_num,HH2.out⟩
    case measure=>simp only [intOf];omega
  ·obtain rfl:lo=hi:=by omega
   have hloI:(lo:Int)≤(n:Int):=by omega
   by_cases hln:lo<n
   ·have hltL:lo<P.length:=by have:=HN.out;omega
    obtain ⟨x,hx⟩:∃ x,P[lo]?=some x:=⟨P[lo],List.getElem?_eq_getElem hltL⟩;have hne:P≠[]:=by intro e;rw [e] at hltL;simp at hltL
    obtain ⟨g,cap',cur,hA,_,hnc,hg,_⟩:=HROW.out.form hne;have hA':A=some ⟨g,0,none⟩:=by injection hA
    subst hA';obtain ⟨d0,d1,d2⟩:=zAz HROW.out lo x hx;clear hA hnc hg hne hltL d1 d2;have hlnI:(lo:Int)<(n:Int):=by omega
    by_cases hc:x.no=no
    ·have hat:=zDI.yes hx hc;have HAT:=hid hat;clear hat hx;have t1:(x.no==no)=true:=by simp [hc]
     clear hc;go_wp2_with fail;go_quiet (fail)
     go_wp2_with fail;go_ret2;exact ⟨lo,true,rfl,HAT.out,(Bl.refl _).drewN _⟩
    ·have hat:=HH.out.no_ HP.out (fun y hy e=>by rw [hx] at hy;cases hy;exact hc e);have HAT:=hid hat;clear hat hx;have t1:(x.no==no)=false:=by simp [hc]
     clear hc;go_wp2_with fail;go_quiet (fail)
     go_wp2_with fail;go_ret2;exact ⟨lo,false,rfl,HAT.out,(Bl.refl _).drewN _⟩
   ·have hlnI:(n:Int)≤(lo:Int):=by omega
    have hat:=HH.out.no_ HP.out (fun y hy=>absurd (List.getElem?_eq_some_iff.1 hy).1 (by have:=HN.out;omega));have HAT:=hid hat;clear hat;go_wp2_with fail;go_quiet (fail)
    go_wp2_with fail;go_ret2;exact ⟨lo,false,rfl,HAT.out,(Bl.refl _).drewN _⟩
end
section
open Go.RowKit
def RProtIs (P:List Pg) (a q:Int):Prop:=OnP P a q∨((∀ q',¬ OnP P a q')∧q = -1)
theorem at_on {x:Pg} (hx:x∈P) (e:x.no=a/4096):OnP P a x.p:=⟨x,hx,by omega,by omega,rfl⟩
theorem zKf (h:∀ x,x∈P→x.no≠a/4096):∀ q,¬ OnP P a q:=fun q ⟨x,hx,h1,h2,_⟩=>h x hx (by omega)
variable {w:World}
theorem rp_prot (h:zAm mo b0 b1 w rb P) (hp:Pgs 67108864 P) (hl:P.length≤5000) (a:Int) (h0:0≤a) (h1:a≤18446744073709551615):
  Calls prog 135 #[zB rb,.int .u64 a] w fun e w'=>∃ q,e=.returned (.int .i64 q)∧RProtIs P a q∧Bl w w':=by
 have ca:=rp_at h hp hl (a/4096);have CA:=hid ca;clear ca;have H:=hid h;clear h;have hlI:(P.length:Int)≤5000:=by omega
 unfold zB at *;go_enter func135,ntmps135;go_wp2_with fail;with_reducible refine CA.out.mono ?_
 rintro e w1 ⟨j,ok,rfl,hat,k⟩;have K:=hid k;clear k;rcases hat with ⟨rfl,x,hx,hn⟩|⟨rfl,hno⟩
 ·obtain ⟨A,cap,c0,_,hrow⟩:=(H.out.bl K.out).cells;have hltL:j<P.length:=(List.getElem?_eq_some_iff.1 hx).1;have hne:P≠[]:=by intro e;rw [e] at hltL;simp at hltL
  obtain ⟨g,cap',cur,hA,_,hnc,hg,_⟩:=hrow.form hne;have hA':A=some ⟨g,0,none⟩:=by injection hA
  subst hA';obtain ⟨d0,d1,d2⟩:=zAz hrow j x hx;have hon:=at_on (List.mem_of_getElem? hx) hn;have HON:=hid hon;clear hon hx hn hrow hA hnc hg hne d0 d2;generalize P.length=n at *;have hltI:(j:Int)<(n:Int):=by omega
  go_wp2_with fail;go_ret;exact ⟨_,rfl,.inl HON.out,K.out⟩
 ·have hon:=zKf hno;have HON:=hid hon;clear hon hno;go_wp2_with fail;go_ret;exact ⟨_,rfl,.inr ⟨HON.out,rfl⟩,K.out⟩
variable {M:Nat→Int}
theorem byte_at {o:Nat} (h:w.heap[b]?=some (zCE M no)) (ho:o<4096):w.cell? ⟨b,o,none⟩=some (.int .u8 (M (no.toNat*4096+o))):=by
 rw [cell_of_row w b o _ 5 (0,0) h]
 have:=zDW (zBD M no.toNat) o (by rw [zq];exact ho)
 rw [List.getD_eq_getElem?_getD,zBM _ _ _ ho] at this
 simpa using this
variable {S:Nat→Prop}
theorem rp_get (h:RP S w rb P M mo b0 b1) (a:Nat) (ha:a<2^64):
  Calls prog 136 #[zB rb,.int .u64 (a:Int)] w fun e w'=>e=.returned (.int .u8 (M a))∧Bl w w':=by
 have ca:=rp_at h.space h.pgs (by have:=h.few;omega) ((a:Int)/4096);have CA:=hid ca;clear ca;have H:=hid h;clear h;have hfew:=H.out.few;have haI:(a:Int)≤18446744073709551615:=by omega
 have haI0:(0:Int)≤(a:Int):=by omega
 have hlI:(P.length:Int)≤5000:=by omega
 unfold zB at *;go_enter func136,ntmps136;go_wp2_with fail;with_reducible refine CA.out.mono ?_
 rintro e w1 ⟨j,ok,rfl,hat,k⟩;have K:=hid k;clear k;rcases hat with ⟨rfl,x,hx,hn⟩|⟨rfl,hno⟩
 ·have h1:=H.out.bl K.out;obtain ⟨A,cap,c0,_,hrow⟩:=h1.space.cells;have hltL:j<P.length:=(List.getElem?_eq_some_iff.1 hx).1;have hne:P≠[]:=by intro e;rw [e] at hltL;simp at hltL
  obtain ⟨g,cap',cur,hA,_,hnc,hg,_⟩:=hrow.form hne;have hA':A=some ⟨g,0,none⟩:=by injection hA
  subst hA';obtain ⟨d0,d1,d2⟩:=zAz hrow j x hx;obtain ⟨o,ho⟩:∃ o,o=a%4096:=⟨_,rfl⟩;have hb:=byte_at (o:=o) (h1.pages x (List.mem_of_getElem? hx)).2 (by omega);have hoI:(a:Int)%4096=(o:Int):=by omega
  have hea:x.no.toNat*4096+o=a:=by omega
  rw [hea] at hb;have ho4:(o:Int)<4096:=by omega
  clear hx hn hrow hA hnc hg hne d0 d1 h1 hea ho;generalize P.length=n at *;have hltI:(j:Int)<(n:Int):=by omega
  go_wp2_with fail;go_ret;exact ⟨rfl,K.out⟩
 ·have h0:=H.out.out a (zKf hno);have H0:=hid h0;clear h0 hno;go_wp2_with fail;go_ret;exact ⟨by rw [H0.out];rfl,K.out⟩
def upd (M:Nat→Int) (a:Nat) (c:Int):Nat→Int:=fun x=>if x=a then c else M x
theorem upd_lay (M:Nat→Int) (a:Nat) (c:Int):upd M a c=lay M a [c]:=by
 funext x
 simp only [upd,lay,List.length_singleton];by_cases h:x=a
 ·rw [if_pos h,if_pos (by omega)];subst h;simp
 ·rw [if_neg h,if_neg (by omega)]
theorem pageOf_upd (M:Nat→Int) (p o:Nat) (c:Int):zBD (upd M (p*4096+o) c) p=(zBD M p).set o c:=by
 apply List.ext_getElem?
 intro i;by_cases hi:i<4096
 ·rw [zBM _ _ _ hi,List.getElem?_set,zq];simp only [upd];by_cases e:o=i
  ·subst e;rw [if_pos rfl,if_pos rfl,if_pos hi]
  ·rw [if_neg (by omega),if_neg e,zBM _ _ _ hi]
 ·rw [List.getElem?_eq_none (by rw [zq];omega),List.getElem?_eq_none (by rw [List.length_set,zq];omega)]
theorem asBytes_set (xs:List Int) (o:Nat) (c:Int):(zJ (xs.set o c)).toArray=(zJ xs).toArray.setIfInBounds o (.int .u8 c):=by
 simp [zJ,List.map_set]
theorem byteRow_set {o:Nat} (h:w.heap[b]?=some (zCE M no)) (c:Int):(w.setCell ⟨b,o,none⟩ (.int .u8 c)).heap[b]?=some (zCE (upd M (no.toNat*4096+o) c) no):=by
 rw [heap_setCell_same w b o _ 5 _ h];unfold zCE;rw [pageOf_upd,asBytes_set]
theorem RP.upd (h:RP S w rb P M mo b0 b1) {x:Pg} (hx:x∈P) {o:Nat} (ho:o<4096) (hc:0≤c∧c≤255):RP S (w.setCell ⟨x.b,o,none⟩ (.int .u8 c)) rb P (YtlhpodholnfppaaGreatDoor.upd M (x.no.toNat*4096+o) c) mo b0 b1:=by
 obtain ⟨v,h1,h2,h3⟩:=h.sp;obtain ⟨hS,hb⟩:=h.pages x hx;refine ⟨⟨v,?_,h2.kept fun g hg=>?_,h3⟩,h.own,h.pgs,h.pr,h.len,h.mo_,fun y=>?_,fun y hy=>?_,h.apart,fun a ha=>?_⟩
 ·rw [Below.heap_setCell _ _ _ _ (fun e=>by rw [show rb=x.b from e,hb] at h1;exact absurd (zBI h1) (by decide))];exact h1
 ·refine Below.heap_setCell _ _ _ _ (fun e=>?_);obtain ⟨cur,hcur⟩:=h2.type hg;rw [show g=x.b from e,hb] at hcur;exact absurd (zBI hcur) (by decide)
 ·simp only [YtlhpodholnfppaaGreatDoor.upd];split
  ·exact hc
  ·exact h.by_ y
 ·by_cases e:y.b=x.b
  ·have hyx:y=x:=by
    rcases Nat.lt_trichotomy 0 1 with _|_|_
    ·obtain ⟨i,hi,rfl⟩:=List.mem_iff_getElem.1 hy;obtain ⟨j,hj,rfl⟩:=List.mem_iff_getElem.1 hx;rcases Nat.lt_trichotomy i j with h9|h9|h9
     ·exact absurd e (List.pairwise_iff_getElem.1 h.apart i j hi hj h9)
     ·subst h9;rfl
     ·exact absurd e.symm (List.pairwise_iff_getElem.1 h.apart j i hj hi h9)
    ·omega
    ·omega
   subst hyx;exact ⟨hS,byteRow_set hb c⟩
  ·obtain ⟨h4,h5⟩:=h.pages y hy;refine ⟨h4,?_⟩;rw [Below.heap_setCell _ _ _ _ (fun e2=>e e2)];rw [h5];unfold zCE;rw [zCN _ _ _ (fun o' ho'=>?_)];simp only [YtlhpodholnfppaaGreatDoor.upd];rw [if_neg (fun e2=>?_)];have h6:x.no.toNat=y.no.toNat:=by omega
   obtain ⟨i,hi,rfl⟩:=List.mem_iff_getElem.1 hy;obtain ⟨j,hj,rfl⟩:=List.mem_iff_getElem.1 hx;have h7:=h.pgs.2 _ hy;have h8:=h.pgs.2 _ hx;rcases Nat.lt_trichotomy i j with h9|h9|h9
   ·have:=List.pairwise_iff_getElem.1 h.pgs.1 i j hi hj h9;omega
   ·subst h9;exact e rfl
   ·have:=List.pairwise_iff_getElem.1 h.pgs.1 j i hj hi h9;omega
 ·simp only [YtlhpodholnfppaaGreatDoor.upd];rw [if_neg (fun e=>?_)]
  ·exact h.out a ha
  ·have h8:=h.pgs.2 _ hx;exact ha x.p ⟨x,hx,by omega,by omega,rfl⟩
theorem rp_set (h:RP S w rb P M mo b0 b1) (a:Nat) (ha:a<2^64) (c:Int) (hc:0≤c∧c≤255) (hon:∃ q,OnP P a q):
  Calls prog 49 #[zB rb,.int .u64 (a:Int),.int .u8 c] w fun e w'=>e=.returned (.tuple #[])∧RP S w' rb P (upd M a c) mo b0 b1∧Fr S w w':=by
 have ca:=rp_at h.space h.pgs (by have:=h.few;omega) ((a:Int)/4096);have CA:=hid ca;clear ca;have H:=hid h;clear h;have hfew:=H.out.few;have haI:(a:Int)≤18446744073709551615:=by omega
 have haI0:(0:Int)≤(a:Int):=by omega
 have hlI:(P.length:Int)≤5000:=by omega
 have HON:=hid hon;clear hon;have HC:=hid hc;clear hc;unfold zB at *;go_enter func49,ntmps49;go_wp2_with fail;with_reducible refine CA.out.mono ?_
 rintro e w1 ⟨j,ok,rfl,hat,k⟩;have K:=hid k;clear k;rcases hat with ⟨rfl,x,hx,hn⟩|⟨rfl,hno⟩
 ·have h1:=H.out.bl K.out;obtain ⟨A,cap,c0,_,hrow⟩:=h1.space.cells;have hltL:j<P.length:=(List.getElem?_eq_some_iff.1 hx).1;have hne:P≠[]:=by intro e;rw [e] at hltL;simp at hltL
  obtain ⟨g,cap',cur,hA,_,hnc,hg,_⟩:=hrow.form hne;have hA':A=some ⟨g,0,none⟩:=by injection hA
  subst hA';obtain ⟨d0,d1,d2⟩:=zAz hrow j x hx;obtain ⟨o,ho⟩:∃ o,o=a%4096:=⟨_,rfl⟩;have hxm:=List.mem_of_getElem? hx;obtain ⟨hS,hxb⟩:=h1.pages x hxm;have hb:=byte_at (o:=o) hxb (by omega);have hfz:w1.frozen? ⟨x.b,o,none⟩=false:=by simp [World.frozen?,hxb,zCE]
  have hoI:(a:Int)%4096=(o:Int):=by omega
  have hea:x.no.toNat*4096+o=a:=by omega
  have h2:=h1.upd hxm (o:=o) (by omega) HC.out;rw [hea] at h2;have f2:Fr S w (w1.setCell ⟨x.b,o,none⟩ (.int .u8 c)):=(Fr.zP K.out).trans (Fr.set (by exact hS) _);have H2:=hid h2;clear h2;have F2:=hid f2;clear f2;have ho4:(o:Int)<4096:=by omega
  clear hx hn hrow hA hnc hg hne d0 d1 h1 hea ho hxm hS hxb;generalize P.length=n at *;have hltI:(j:Int)<(n:Int):=by omega
  go_wp2_with fail
  go_end0
  exact ⟨rfl,H2.out,F2.out⟩
 ·obtain ⟨q,hq⟩:=HON.out;exact absurd hq (zKf hno q)
end
section
open Go.RowKit
theorem zDl (h:Pgs 67108864 P) {q:Int}:In (regs P) a q↔OnP P a q:=(zEA h (by omega)).2.1 a q
theorem zJq (h:Pgs 67108864 P):Rs (regs P):=(zEA h (by omega)).1
theorem zFj (h:Pgs 67108864 P):So 0 274877906944 (regs P):=(zJq h).nm.so
section
variable {S:Nat→Prop} {mo b0 b1:Int} {w:World} {rb:Nat} {P:List Pg} {M:Nat→Int}
theorem zFA (h:RP S w rb P M mo b0 b1) (a:Int) (n:Nat) (p:Int) (h0:0≤a) (h1:a≤18446744073709551615) (hn:n≤4194304) :
  Calls prog 89 #[zB rb,.int .u64 a,.int .i64 (n:Int),.int .i64 p] w (zBF w (regs P) a (a+n) p):=by
 have cp:=fun W (k:Bl w W) (y:Int) (y0:0≤y) (y1:y≤18446744073709551615)=>rp_prot (h.bl k).space h.pgs (by have:=h.few;omega) y y0 y1
 have CP:=hid cp;clear cp;have HPG:=hid h.pgs;have HPR:=hid h.pr;clear h;have hnI:(n:Int)≤4194304:=by omega
 unfold zB at *;go_enter func89,ntmps89;go_wp2_with fail
 go_loopw [10,11] (fun i _ wr=>∃ k:Nat,k≤n∧i=.int .i64 k∧(∀ y,a≤y→y<a+k→Can (regs P) p y)∧Bl w wr) (fun i _ _=>n - (intOf i).toNat)
 case atStart=>exact ⟨0,by omega,rfl,fun y h1 h2=>absurd h2 (by omega),Bl.refl _⟩
 case round =>
  obtain ⟨k,hk,rfl,hall,hbl⟩:=hrel;have hin:a+k≤18446744073709551615:=by
   rcases Nat.eq_zero_or_pos k with h9|h9
   ·subst h9;omega
   ·obtain ⟨q,hq,_⟩:=hall (a+k - 1) (by omega) (by omega)
    have:=(zFj HPG.out).range hq
    omega
  have HALL:=hid hall;clear hall;have HBL:=hid hbl;clear hbl;by_cases hlt:k<n
  ·have hltI:(k:Int)<(n:Int):=by omega
   go_wp2_with fail;with_reducible refine (CP.out _ HBL.out (a+k) (by omega) hin).mono ?_
   rintro e w1 ⟨q,rfl,hq,k1⟩;have K1:=hid (HBL.out.trans k1);clear k1;rcases hq with hq|⟨hq,rfl⟩
   ·have hq0:0≤q:=by
     obtain ⟨x,hx,_,_,rfl⟩:=hq;exact (HPR.out x hx).1
    by_cases hc:bits .and .i64 q p=p
    ·have t1:(bits .and .i64 q p != p)=false:=by simp [hc]
     have hcan:Can (regs P) p (a+k):=⟨q,(zDl HPG.out).2 hq,hc⟩;have hall2:∀ y,a≤y→y<a+((k+1:Nat):Int)→Can (regs P) p y:=fun y y1 y2=>by
      rcases Int.lt_or_le y (a+k) with h9|h9
      ·exact HALL.out y y1 h9
      ·obtain rfl:y=a+k:=by omega
       exact hcan
     have HALL2:=hid hall2;clear hall2 hcan hc hq;go_wp2_with fail;refine ⟨⟨k+1,by omega,by go_num,HALL2.out,K1.out⟩,?_⟩;simp only [intOf];omega
    ·have t1:(bits .and .i64 q p != p)=true:=by simp [hc]
     have hno:¬ Can (regs P) p (a+k):=fun ⟨q',hq',hb⟩=>hc (by rw [← (zFj HPG.out).one hq' ((zDl HPG.out).2 hq)];exact hb)
     have hp:zBF w (regs P) a (a+n) p (.returned (.tuple #[.int .u64 (a+k),.bool true])) w1:=⟨a+k,true,rfl,.inl ⟨rfl,by omega,by omega,hno,HALL.out⟩,K1.out⟩;have HP:=hid hp;clear hp hno hc hq;go_wp2_with fail;go_ret2;exact HP.out
   ·have hno:¬ Can (regs P) p (a+k):=fun ⟨q',hq',hb⟩=>hq q' ((zDl HPG.out).1 hq')
    have hp:zBF w (regs P) a (a+n) p (.returned (.tuple #[.int .u64 (a+k),.bool true])) w1:=⟨a+k,true,rfl,.inl ⟨rfl,by omega,by omega,hno,HALL.out⟩,K1.out⟩;have HP:=hid hp;clear hp hno hq;go_wp2_with fail;go_ret2;exact HP.out
  ·obtain rfl:k=n:=by omega
   have hp:zBF w (regs P) a (a+k) p (.returned (.tuple #[.int .u64 0,.bool false])) wr:=⟨0,false,rfl,.inr ⟨rfl,rfl,HALL.out⟩,HBL.out⟩;have HP:=hid hp;clear hp;go_wp2_with fail;go_ret2;exact HP.out
variable {w':World}
theorem own_bl {w:World} {e size:Nat} {v:Value} {xs:List Value} (h:w.ownsRow base e size v n xs) (k:Bl w w'):w'.ownsRow base e size v n xs:=by
 refine ⟨h.1,?_⟩;rcases h.2 with h1|⟨g,cap,cur,rfl,h1,h2,h3⟩
 ·exact .inl h1
 ·exact .inr ⟨g,cap,cur,rfl,h1,k.at_ h2,h3⟩
theorem bytesAt_snoc (M:Nat→Int) (a k:Nat):zf M a (k+1)=zf M a k++[M (a+k)]:=by simp [zf,List.range_succ]
theorem zIr (h:RP S w rb P M mo b0 b1) (a n:Nat) (ha:a+n≤2^64) (hn:n≤5000) :
  Calls prog 91 #[zB rb,.int .u64 (a:Int),.int .i64 (n:Int)] w fun e w'=>∃ B c,e=.returned (.slice B n c)∧Rd w' B (zf M a n)∧Bl w w':=by
 obtain ⟨i0,hi0,hz0,hz1,hz2⟩:=info_parts infoByte;have J0:=hid hi0;clear hi0;have J1:=hid hz0;clear hz0;have J2:=hid hz1;clear hz1;have J3:=hid hz2;clear hz2;have cg:∀ W (k:Bl w W) (y:Nat) (z:Int) (hz:z=y) (hy:y<2^64),Calls prog 136 #[zB rb,.int .u64 z] W fun e w'=>e=.returned (.int .u8 (M y))∧Bl W w':=fun W k y z hz hy=>by subst hz;exact rp_get (h.bl k) y hy
 have CG:=hid cg;clear cg h;have hnI:(n:Int)≤5000:=by omega
 have haI:(a:Int)+(n:Int)≤18446744073709551616:=by omega
 have haI0:(0:Int)≤(a:Int):=by omega
 unfold zB at *;go_enter func91,ntmps91;go_wp2_with fail
 go_loopw [7,8] (fun v i wr=>∃ k:Nat,k≤n∧i=.int .i64 k∧wr.ownsRow w.heap.size 5 1 v k (zJ (zf M a k))∧Bl w wr) (fun _ i _=>n - (intOf i).toNat)
 case atStart=>exact ⟨0,by omega,rfl,⟨by simp [zf,zJ],.inl ⟨rfl,rfl⟩⟩,Bl.refl _⟩
 case round =>
  obtain ⟨k,hk,rfl,hown,hbl⟩:=hrel;have HO:=hid hown;clear hown;have HBL:=hid hbl;clear hbl;by_cases hlt:k<n
  ·have hltI:(k:Int)<(n:Int):=by omega
   go_wp2_with fail;with_reducible refine (CG.out _ HBL.out (a+k) ((a:Int)+(k:Int)) (by omega) (by omega)).mono ?_
   rintro e w1 ⟨rfl,k1⟩;have ho1:w1.ownsRow w.heap.size 5 1 _ k (zJ (zf M a k)):=own_bl HO.out k1;have HO1:=hid ho1;clear ho1;have HB1:=hid (HBL.out.trans k1);clear k1;have hb1:=HB1.out.size;go_wp2_with (at_builtin;refine zBK rfl (.tmp 14) (.tmp 21) 22 rfl w.heap.size 5 i0 underlying22 J0.out J1.out J2.out J3.out _ k (zf M a k) rfl (HO1.out.alloc _) (some ⟨w1.heap.size,0,none⟩) 1 1 [M (a+k)] rfl (one_cell w1 _) rfl (fun h=>by cases h) (by omega) (by simp;omega) ?_;intro v2 w2 hown2 hg2);have hb2:Bl w w2:=(HB1.out.alloc _).grown hg2 (by simp;omega) (zAL HO1.out)
   go_roundw
   case rel=>exact ⟨k+1,by omega,by go_num,by rw [bytesAt_snoc];exact hown2,hb2⟩
   case measure=>simp [intOf];omega
  ·obtain rfl:k=n:=by omega
   go_wp2;go_ret;obtain ⟨B,c,rfl,hrd,_,_⟩:=Rd.zIA HO.out;exact ⟨B,c,rfl,hrd,HBL.out⟩
end
end
end Go.Proofs.YtlhpodholnfppaaGreatDoor
