/-
  Part of the proof.
-/
import Derived.Test.YtlhpodholnfppaaGreatDoorZ14
set_option linter.unusedVariables false
set_option linter.unusedSimpArgs false
set_option maxHeartbeats 16000000
set_option maxRecDepth 100000
set_option linter.defProp false
open Go.Lib (hid)
namespace Go.Proofs.YtlhpodholnfppaaGreatDoor
open Go.Proofs.Tryz
open Go.RowKit
theorem refPut_cap (A:Option Addr) (len cap:Nat) (xs:List Int) (x:Int) (n:Nat) (w:World) (hr:Rd w A xs) (hl:xs.length=len) (hc:A=none→cap=0) (hm:len≤5100) (h1:1≤n) (h8:n≤8) :
  Calls prog 16 #[.slice A len cap,.int .u64 x,.int .i64 n] w fun e w'=>∃ B c,e=.returned (.slice B (len+n) c)∧Rd w' B (xs++putB x n)∧Below w.heap.size w w'∧(B=none→c=0)∧len+n≤c:=by
 obtain ⟨i0,hi0,hz0,hz1,hz2⟩:=info_parts infoByte;have HR:=hid hr;clear hr;have HL:=hid hl;clear hl;have HC:=hid hc;clear hc;have J0:=hid hi0;clear hi0;have J1:=hid hz0;clear hz0;have J2:=hid hz1;clear hz1;have J3:=hid hz2;clear hz2;go_enter func16,ntmps16;go_wp2_with (at_builtin;refine zBK rfl (.tmp 9) (.tmp 10) 22 rfl w.heap.size 5 i0 underlying22 J0.out J1.out J2.out J3.out _ 0 [] rfl (zCc w) A len cap xs rfl (HR.out.alloc _) HL.out HC.out (by omega) (by simp) ?_;intro v1 w1 hown1 hg1;have HO1:=hid hown1;clear hown1);have hbel:Below w.heap.size w w1:=((Below.refl _ _).alloc (zzr _) _).grown hg1 (by simp) (zAL (zCc w));clear hg1
 go_loopw [7,8] (fun v i wr=>∃ k:Nat,k≤n∧i=.int .i64 k∧wr.ownsRow w.heap.size 5 1 v (len+k) (zJ (xs++putB x k))∧Below w.heap.size w wr) (fun _ i _=>n - (intOf i).toNat)
 case atStart=>exact ⟨0,by omega,rfl,by simpa [putB] using HO1.out,hbel⟩
 case round =>
  obtain ⟨k,hk,rfl,hown,hbr⟩:=hrel;clear hbel HO1;have HO:=hid hown;clear hown;by_cases hlt:k<n
  ·go_wp2_with (at_builtin;refine zBK rfl (.tmp 24) (.tmp 31) 22 rfl w.heap.size 5 i0 underlying22 J0.out J1.out J2.out J3.out _ (len+k) (xs++putB x k) rfl (HO.out.alloc _) (some ⟨wr.heap.size,0,none⟩) 1 1 [x/2^(8*k)%256] rfl (one_cell wr _) rfl (fun h=>by cases h) (by omega) (by have:=hbr.size;simp;omega) ?_;intro v2 w2 hown2 hg2);have hsz:=hbr.size;have hb2:Below w.heap.size w w2:=(hbr.alloc hsz _).grown hg2 (by simp;omega) (zAL HO.out)
   go_roundw
   case rel=>exact ⟨k+1,by omega,by go_num,by rw [zEC,← List.append_assoc];exact hown2,hb2⟩
   case measure=>simp [intOf];omega
  ·obtain rfl:k=n:=by omega
   go_wp2;go_ret;obtain ⟨B,c,rfl,hrd,_,hnn,hcc⟩:=Rd.zIA HO.out;exact ⟨B,c,rfl,hrd,hbr,hnn,hcc⟩
variable {m y:Nat} {i:Td.Ins}
theorem dec_ok (h:y%4=3) (hd:Td.dec y=i) (ho:i.op≠0):okOf y=true∧zCs y=i:=by
 refine ⟨?_,by rw [zDR h,hd]⟩;rw [zEE h,decide_eq_true_eq];intro e
 apply ho
 rw [← hd];unfold Td.dec;rw [if_pos e];rfl
variable {M:Nat→Int}
theorem ans_word {p:Nat} {x:Int} (hp:p%2=0) (h:65536≤p∧p+3<73728) (hx:x=(y:Int)) (hy:y<4294967296) (h3:y%4=3) (hm:∀ t,t<4→M (p+t)=(putB x 4).getD t 0) (hd:Td.dec y=i) (ho:i.op≠0):zBl l3 M p ⟨i,0,0,0⟩:=by
 obtain ⟨g1,g2⟩:=dec_ok h3 hd ho;have m0:=hm 0 (by decide);have m1:=hm 1 (by decide);have m2:=hm 2 (by decide);have m3:=hm 3 (by decide);rw [zHM _ _ _ (by decide)] at m0 m1 m2 m3;simp only [Nat.add_zero,Nat.mul_zero,Int.pow_zero,Int.ediv_one,Nat.mul_one,show (2:Int)^8=256 from rfl,show (2:Int)^(8*2)=65536 from rfl,show (2:Int)^(8*3)=16777216 from rfl] at m0 m1 m2 m3
 have:=ans_long (M:=M) hp h (y:=y) (by rw [m0,m1,m2,m3];omega) (by rw [m0,m1];omega) g1
 rwa [g2] at this
structure zKm (wr:World) (B:Option Addr) (m c:Nat) (J:Int) (xs:List Int):Prop where
 rd:Rd wr B xs
 len:xs.length=m
 cap:m≤c
 nil:B=none→c=0
 first:∀ t,t<4→xs.getD t 0=(putB J 4).getD t 0
 bd:∀ t,0≤xs.getD t 0∧xs.getD t 0≤255
theorem put4 (A:Option Addr) (len cap:Nat) (xs:List Int) (x:Int) (w:World) (hr:Rd w A xs) (hl:xs.length=len) (hc:A=none→cap=0) (hm:len≤5100) :
  Calls prog 16 #[.slice A len cap,.int .u64 x,.int .i64 4] w fun e w'=>∃ B c m,e=.returned (.slice B m c)∧m=len+4∧Rd w' B (xs++putB x 4)∧Bl w w'∧(B=none→c=0)∧m≤c:=by
 refine (refPut_cap A len cap xs x 4 w hr hl hc hm (by decide) (by decide)).mono ?_;rintro e w' ⟨B,c,h1,h2,h3,h4,h5⟩;exact ⟨B,c,len+4,h1,rfl,h2,h3,h4,h5⟩
variable {xs:List Int} {w:World}
theorem zKm.bytes {B:Option Addr} {c:Nat} {J:Int} (h:zKm w B m c J xs) (hm:0<m∧m≤8000):BytesIn w B m c xs:=by
 refine ⟨h.rd,h.len,h.cap,h.nil,h.bd,fun h0 ad e=>?_,by omega⟩;obtain ⟨ad',e',hc⟩:=h.rd (by rw [h.len];exact h0);rw [e'] at e;cases e
 have:=block_lt_of_cell (hc 0 (by rw [h.len];exact h0))
 rwa [add_block] at this
end Go.Proofs.YtlhpodholnfppaaGreatDoor
namespace Go.Proofs.YtlhpodholnfppaaGreatDoor
open Go.Proofs.Tryz
open Go.ChangeShapes Go.WideShapes Go.ChangeAt Go.RowKit
variable {base n y:Nat}
theorem opW_low (h:Td.opW y≠0):y%4=3:=by
 apply Classical.byContradiction
 intro h3
 apply h
 refine op_no ?_;have hc:Td.pc y 0 7=y%128:=by unfold Td.pc;simp
 unfold Td.fmC;rw [hc]
 repeat rw [if_neg (by omega)]
theorem dec_op (h:Td.opW y≠0):(Td.dec y).op≠0:=by
 unfold Td.dec;rw [if_neg h];have hf:Td.fmW y≠.no:=fun e=>h (op_no e)
 generalize Td.fmW y=f at *;cases f<;>first|exact h|exact absurd rfl hf
theorem dec_rd (y:Nat):0≤(Td.dec y).rd∧(Td.dec y).rd<32:=by
 unfold Td.dec
 split
 ·simp only [Td.zDh];omega
 ·exact (zIy _ _ _).1
variable {xs:List Int}
theorem setX_other {r:Int} (y:Int) (h1:1≤n) (hn:r.toNat≠n):(setX xs r y).getD n 0=xs.getD n 0:=by
 unfold setX;rw [zzd,List.getElem?_set_ne (by omega),List.getElem?_set_ne hn,← zzd]
variable {fa fk:Int} {L:List Rg} {M M':Nat→Int} {i:Td.Ins}
theorem DoIs.other {s:St} {k:Int} {s':St} (h:DoIs L M s i k fk fa s' M') (h1:1≤n) (hn:i.rd.toNat≠n):s'.xs.getD n 0=s.xs.getD n 0:=by
 cases h<;>first|rfl|exact setX_other _ h1 hn
theorem zBT.other {s:St} {k:Int} {s':St} (h:zBT l3 M s k fk fa s' M') (hp:s.pc=65536) (hy:y<4294967296) (ho:Td.opW y≠0) (hm:∀ t,t<4→M (65536+t)=(putB (y:Int) 4).getD t 0) (h1:1≤n) (hn:(Td.dec y).rd.toNat≠n):s'.xs.getD n 0=s.xs.getD n 0:=by
 have ha:=ans_word (p:=65536) (by decide) (by decide) rfl hy (opW_low ho) hm rfl (dec_op ho);have hq:s.pc.toNat=65536:=by rw [hp];rfl
 cases h with
 | bad A g1 g2=>rfl
 | go A _ _ _ _ _ g1 g2 g3 =>
  rw [hq] at g1;obtain rfl:=g1.one ha;exact g3.other h1 hn
theorem cellsIn:Program.cellsOf prog 38=7:=by kernel_rfl
variable {w:World}
theorem open_insn {H:Type} {enc:TypeId × Value→H} {sp:Nat→Bool} {held:Bool} {r:Reach} {b0:Nat} {v:Value} {d:DataW H} {p:List MemPlace} (hv:Value.okWide prog w r b0 38 v) (h:DataW.Trod enc prog w base sp held 38 v d p):
  ∃ i:Td.Ins,v=.agg i.cells:=by
 obtain ⟨cs,rfl,hsz⟩:=okWide_struct underlying38 hv;rw [cellsIn] at hsz;obtain ⟨fuel,hf⟩:=h;obtain ⟨xs,n,_,hx,_,hlen,hg⟩:=DataW.trod_struct underlying38 hf;obtain ⟨l⟩:=cs
 match l,hsz with
 | [c0,c1,c2,c3,c4,c5,c6],_ =>
  match xs,hlen with
  | [y0,y1,y2,y3,y4,y5,y6],_ =>
   have t0:DataW.trod enc prog w base sp held n 3 [c0]=some y0:=by simpa [Value.cells,zGH] using hg 0 _ rfl
   have t1:DataW.trod enc prog w base sp held n 3 [c1]=some y1:=by simpa [Value.cells,zGH] using hg 1 _ rfl
   have t2:DataW.trod enc prog w base sp held n 3 [c2]=some y2:=by simpa [Value.cells,zGH] using hg 2 _ rfl
   have t3:DataW.trod enc prog w base sp held n 3 [c3]=some y3:=by simpa [Value.cells,zGH] using hg 3 _ rfl
   have t4:DataW.trod enc prog w base sp held n 3 [c4]=some y4:=by simpa [Value.cells,zGH] using hg 4 _ rfl
   have t5:DataW.trod enc prog w base sp held n 3 [c5]=some y5:=by simpa [Value.cells,zGH] using hg 5 _ rfl
   have t6:DataW.trod enc prog w base sp held n 3 [c6]=some y6:=by simpa [Value.cells,zGH] using hg 6 _ rfl
   obtain ⟨z0,u0,_,_⟩:=DataW.trod_int underlying3 t0;obtain ⟨z1,u1,_,_⟩:=DataW.trod_int underlying3 t1;obtain ⟨z2,u2,_,_⟩:=DataW.trod_int underlying3 t2;obtain ⟨z3,u3,_,_⟩:=DataW.trod_int underlying3 t3;obtain ⟨z4,u4,_,_⟩:=DataW.trod_int underlying3 t4;obtain ⟨z5,u5,_,_⟩:=DataW.trod_int underlying3 t5;obtain ⟨z6,u6,_,_⟩:=DataW.trod_int underlying3 t6;obtain rfl:c0=.int .i64 z0:=by simpa using u0
   obtain rfl:c1=.int .i64 z1:=by simpa using u1
   obtain rfl:c2=.int .i64 z2:=by simpa using u2
   obtain rfl:c3=.int .i64 z3:=by simpa using u3
   obtain rfl:c4=.int .i64 z4:=by simpa using u4
   obtain rfl:c5=.int .i64 z5:=by simpa using u5
   obtain rfl:c6=.int .i64 z6:=by simpa using u6
   exact ⟨⟨z0,z1,z2,z3,z4,z5,z6⟩,rfl⟩
end Go.Proofs.YtlhpodholnfppaaGreatDoor
namespace Go.Proofs.YtlhpodholnfppaaGreatDoor
open Go.RowKit
variable {k rc rl:Nat} {rs:Nat→Int}
theorem rg_first (h1:1≤k) (h2:k<32):(rg rl rs 32).getD k 0=valR rl rs k:=by
 rw [zHs _ _ _ _ h2,if_pos ⟨h1,h2⟩]
theorem valR_in (h:k<rl):valR rl rs k=rs k:=if_pos h
theorem valR_out (h:¬ k<rl):valR rl rs k=131072+8*(k:Int):=if_neg h
variable {R:Option Addr}
theorem one_walk (i:Td.Ins) (y:Int) (w:World) (hy:0≤y∧y<4294967296) (hri:zEN w R rl rs) (hrl:rl≤9223372036854775807) (hrb:∀ j,j<rl→0≤rs j∧rs j<18446744073709551616) (hT:Td.zBk w):
  Calls Tryz.prog 4 #[.agg i.cells,.int .u32 y,.slice R rl rc] w fun e w'=>e=.returned (.bool true)∧Bl w w':=by
 obtain ⟨m,rfl⟩:=zze hy.1;have hm:m<4294967296:=by omega
 have HMN:=hid hm;clear hm;have HT:=hid hT;clear hT hy;have HRB:=hid hrb;clear hrb;have HRI:=hid hri;clear hri;have HRL:=hid hrl;have hrlI:(rl:Int)≤9223372036854775807:=by omega
 clear hrl;obtain ⟨b0,b1,b2,b3,b4,b5,b6⟩:=i;unfold Td.Ins.cells;simp only;have KB:=hid (Bl.new w (.cells (Td.I7 b0 b1 b2 b3 b4 b5 b6) 38));go_enter Tryz.func4,Tryz.ntmps4;go_upto_region 1 with (fail);generalize w.alloc (.cells (Td.I7 b0 b1 b2 b3 b4 b5 b6) 38)=W0 at *;go_wp2_with fail;with_reducible refine (Tr.zJr m W0 HMN.out).mono ?_
 rintro e w1 ⟨rfl,kk0⟩;have K1:=hid (KB.out.trans (Td.Kp.bl kk0));clear kk0 KB;obtain ⟨oz,hoz⟩:∃ o,decide (Td.opW m≠0)=o:=⟨_,rfl⟩;rw [hoz];have HOZ:=hid hoz;clear hoz;have hrd:=dec_rd m;have OT:=hid (fun (ho:Td.opW m≠0) M s k fk fa s' M' (h:zBT l3 M s k fk fa s' M') (hp:s.pc=65536) (hm':∀ t,t<4→M (65536+t)=(putB (m:Int) 4).getD t 0) n (h1:1≤n) (hn:(Td.dec m).rd.toNat≠n)=>h.other hp HMN.out ho hm' h1 hn);obtain ⟨⟨z0,z1,z2,z3,z4,z5,z6⟩,hZ⟩:∃ i:Td.Ins,Td.dec m=i:=⟨_,rfl⟩;rw [hZ] at OT hrd ⊢;unfold Td.Ins.cells;simp only at OT hrd ⊢;clear hZ;have hz10:=hrd.1;go_upto_region 2 with (fail);have T7:=hid (zzn w1 (.cells (Td.I7 z0 z1 z2 z3 z4 z5 z6) 38));have K2:=hid (K1.out.trans (Bl.new w1 (.cells (Td.I7 z0 z1 z2 z3 z4 z5 z6) 38)));have G7:Hid (21≤w1.heap.size):=hid (by have:=K1.out.size;have:=HT.out.lt (show 20<21 by decide);omega);clear K1;generalize w1.alloc (.cells (Td.I7 z0 z1 z2 z3 z4 z5 z6) 38)=W1 at *;generalize w1.heap.size=t7 at *;by_cases hoz:oz=false
 ·subst hoz;go_wp2_with fail;with_reducible refine (zCF W1 (HT.out.bl K2.out)).mono ?_
  rintro e w2 ⟨rfl,k2⟩;go_wp2_with fail;go_ret;exact ⟨rfl,K2.out.trans k2⟩
 ·have hoz':oz=true:=by simpa using hoz
  subst hoz';have OT1:=hid (OT.out (of_decide_eq_true HOZ.out));clear OT HOZ hoz;have cp:=put4 none 0 0 [] (m:Int) W1 (fun h=>absurd h (by decide)) rfl (fun _=>rfl) (by decide);go_wp2_with fail;rw [show IntKind.u64.wrap (m:Int)=(m:Int) from zzu _ (by have:=HMN.out;omega)];with_reducible refine cp.mono ?_
  rintro e w2 ⟨B0,c0,m0,rfl,hm0,hrd2,hbl,hnn,hcc⟩;rw [List.nil_append] at hrd2;obtain rfl:m0=4:=hm0;have CD:Hid (zKm w2 B0 4 c0 (m:Int) (putB (m:Int) 4)):=hid ⟨hrd2,by rw [zBJ],hcc,hnn,fun t ht=>rfl,zHN _ 4⟩;have K3:=hid (K2.out.trans hbl);have T7b:=hid (hbl.at_ T7.out);clear hrd2 hbl hnn hcc cp K2 T7;have cm:=zDA (rc:=rc) w2 (CD.out.bytes (by omega)) (by omega) (HRI.out.bl K3.out) HRL.out false;have CM:=hid cm;clear cm;go_wp2_with fail;with_reducible refine CM.out.mono ?_
  rintro e w3 ⟨hb,kb,sb,rb,cb,B,n,M,st,K,rfl,hpr,hmd⟩;have DU:=hid (hmd.duo (zIZ _ _ _ HRB.out) (HT.out.bl K3.out));have LE:=hid hmd.le;have K4:=hid (K3.out.trans hmd.bl);have T7c:=hid (hmd.bl.at_ T7b.out);have HM4:=hid (fun t (ht:t<4)=>zJt hpr (by omega) t ht);have L7:=hid (zG T7b.out);have SZ:=hid K3.out.size;clear hpr hmd CM CD K3 T7b;unfold zB;generalize w2.heap.size=z2_ at *;have cs:=DU.out.hstep (by have:=LE.out;omega);unfold zB at cs;go_wp2_with fail;with_reducible refine cs.mono ?_
  rintro e w4 ⟨k',fk,fa,s',M',st',g1,rfl,g2,g3⟩;have G1:=hid g1;have OTH:=hid (fun n h1 hn=>OT1.out _ _ _ _ _ _ _ g1 rfl HM4.out n h1 hn);have K5:=hid (zJO K4.out g3 (fun x h1 h2=>⟨h1,by have:=SZ.out;omega⟩));have T7d:=hid (g3.at_ T7c.out (fun e=>e.1 ⟨G7.out,L7.out⟩));clear g1 g3 cs K4 T7c DU OT1 HM4;unfold zAD;go_upto_region 6 with (fail);have k9:=Bl.new w4 (.cells #[.int .i64 k',.int .i64 fk,.int .u64 fa] 33);have S9:=hid (zzn w4 (.cells #[.int .i64 k',.int .i64 fk,.int .u64 fa] 33));have D2:=hid (g2.bl k9);have N9:=hid (zG S9.out);have K6:=hid (K5.out.trans k9);have T7e:=hid (k9.at_ T7d.out);clear k9 g2 K5 T7d;generalize w4.alloc (.cells #[.int .i64 k',.int .i64 fk,.int .u64 fa] 33)=V2 at *;have cr:=D2.out.rstep;generalize w4.heap.size=t9 at *;unfold zB at cr;go_wp2_with fail;with_reducible refine cr.mono ?_
  rintro e w5 ⟨k2,fk2,fa2,s2,M2,q1,rfl,q2,q3⟩;obtain ⟨rfl,rfl,rfl,rfl,rfl⟩:=q1.one G1.out;clear q1 cr;have S9b:=hid (q3.at_ S9.out (fun e=>e.1 (.inr ⟨zzr _,N9.out⟩)));have T7f:=hid (q3.at_ T7e.out (fun e=>e.1 (.inl ⟨G7.out,L7.out⟩)));have K7:=hid (zJO K6.out q3 (fun x h1 h2=>.inl ⟨h1,by have:=SZ.out;omega⟩));clear q3 S9 N9 K6 D2 T7e;unfold zAD;go_upto_region 7 with (fail);have k10:=Bl.new w5 (.cells #[.int .i64 k2,.int .i64 fk2,.int .u64 fa2] 33);have S10:=hid (zzn w5 (.cells #[.int .i64 k2,.int .i64 fk2,.int .u64 fa2] 33));have S9c:=hid (k10.at_ S9b.out);have T7g:=hid (k10.at_ T7f.out);have D3:=hid (q2.bl k10);have K8:=hid (K7.out.trans k10);clear k10 q2 K7 S9b T7f;generalize w5.alloc (.cells #[.int .i64 k2,.int .i64 fk2,.int .u64 fa2] 33)=V3 at *;generalize w5.heap.size=t10 at *;have hxl:=D3.out.regs.len;have hx0:=D3.out.regs.z;have ct:=zEb D3.out.ht;unfold zB at ct;go_wp2_with fail;with_reducible refine ct.mono ?_
  rintro e wA ⟨rfl,kA⟩;have hsn:=zCY wA s2.pc s2.xs s2.ha s2.hn hxl;go_upto_region 8 with (first|(refine wplS _ rfl (.tmp 13) (.tmp 37) 47 rfl _ _ rfl rfl hsn ?_)|fail);(try simp only [Act.put])
  have k11:=kA.trans (Bl.new wA (.cells (stV s2.pc s2.xs s2.ha s2.hn).toArray 47));have S13:=hid (st_new wA s2.pc s2.xs s2.ha s2.hn hxl);have D4:=hid (D3.out.bl k11);have S10b:=hid (k11.at_ S10.out);have S9d:=hid (k11.at_ S9c.out);have T7h:=hid (k11.at_ T7g.out);have K9:=hid (K8.out.trans k11);clear hsn ct k11 kA S9c S10 T7g K8 D3 G1;generalize wA.alloc (.cells (stV s2.pc s2.xs s2.ha s2.hn).toArray 47)=V4 at *;generalize wA.heap.size=t13 at *;go_wp2_with fail;with_reducible refine (zCF V4 D4.out.tabs).mono ?_
  rintro e w6 ⟨rfl,k6⟩;obtain ⟨e0,e1,e2⟩:=zD (k6.at_ S9d.out);obtain ⟨f0,f1,f2⟩:=zD (k6.at_ S10b.out);have D5:=hid (D4.out.bl k6);have cq:=D5.out.same;unfold zB at cq;go_wp2_with fail;with_reducible refine cq.mono ?_
  rintro e w7 ⟨rfl,k7⟩;have D6:=hid (D5.out.bl k7);have ca:=D6.out.alike;unfold zB at ca;clear e0 e1 e2 f0 f1 f2 cq;go_wp2_with fail;with_reducible refine ca.mono ?_
  rintro e w8 ⟨rfl,k8⟩;have k68:=(k6.trans k7).trans k8;have SX:=hid (S13.out.bl k68);have T7i:=hid (k68.at_ T7h.out);have KA:=hid (K9.out.trans k68);clear k6 k7 k8 k68 D4 D5 D6 ca S13 T7h K9 S9d S10b;have x0:=SX.out.x 0 (by decide);rw [hx0] at x0;go_upto_region 11 with (fail);clear x0
  go_loopw [14] (fun i wr=>∃ k:Nat,1≤k∧k≤32∧i=.int .i64 k∧wr=w8) (fun i _=>32 - (intOf i).toNat)
  case atStart=>exact ⟨1,by omega,by omega,rfl,rfl⟩
  case round =>
   obtain ⟨k,hk1,hk,rfl,rfl⟩:=hrel;have hkI1:(1:Int)≤(k:Int):=by omega
   by_cases hlt:k<32
   ·have hltI:(k:Int)<32:=by omega
    have xk:=SX.out.x k hlt;obtain ⟨_,d1,_⟩:=zI T7i.out;have hoth:=OTH.out k hk1;(try simp only at hoth)
    rw [rg_first hk1 hlt] at hoth;by_cases hkr:k<rl
    ·have hkrI:(k:Int)<(rl:Int):=by omega
     obtain ⟨b,off,hA,_,hc⟩:=(HRI.out.bl KA.out) (by omega);subst hA;have ck:=hc k hkr;rw [valR_in hkr] at hoth;by_cases hz:(k:Int)=z1
     ·have t1:((k:Int) != z1)=false:=by simp [hz]
      clear hoth;go_wp2_with fail;refine ⟨⟨k+1,by omega,by omega,by go_num,trivial⟩,?_⟩;simp only [intOf];omega
     ·have t1:((k:Int) != z1)=true:=by simp [hz]
      rw [hoth (by omega)] at xk;clear hoth;go_wp2_with fail;refine ⟨⟨k+1,by omega,by omega,by go_num,trivial⟩,?_⟩;simp only [intOf];omega
    ·have hkrI:(rl:Int)≤(k:Int):=by omega
     rw [valR_out hkr] at hoth;by_cases hz:(k:Int)=z1
     ·have t1:((k:Int) != z1)=false:=by simp [hz]
      clear hoth;go_wp2_with fail;refine ⟨⟨k+1,by omega,by omega,by go_num,trivial⟩,?_⟩;simp only [intOf];omega
     ·have t1:((k:Int) != z1)=true:=by simp [hz]
      rw [hoth (by omega)] at xk;have hmul:(k:Int)*8=8*(k:Int):=by omega
      clear hoth;go_wp2_with fail;refine ⟨⟨k+1,by omega,by omega,by go_num,trivial⟩,?_⟩;simp only [intOf];omega
   ·obtain rfl:k=32:=by omega
    go_wp2_with fail;go_ret;exact ⟨rfl,KA.out⟩
end Go.Proofs.YtlhpodholnfppaaGreatDoor
