/-
  Part of the proof.
-/
import Derived.Test.YtlhpodholnfppaaGreatDoorZ2
import Derived.Deep.RegionWith
set_option linter.unusedVariables false
set_option linter.unusedSimpArgs false
set_option maxHeartbeats 16000000
set_option maxRecDepth 100000
set_option linter.defProp false
open Go.Lib (hid)
namespace Go.Proofs.YtlhpodholnfppaaGreatDoor
open Go.Proofs.Tryz
open Go.RowKit
def cnt (f:Nat→Option Nat) (a:Nat):Nat→Nat
 | 0=>0
 | m+1=>cnt f a m+(if (f (a+m)).isSome then 0 else 1)
structure Held (f f':Nat→Option Nat) (k k' a m:Nat):Prop where
 some_:∀ p,(f' p).isSome=((f p).isSome || decide (a≤p∧p<a+m))
 count:k'=k+cnt f a m
theorem Held.none_ (f:Nat→Option Nat) (k a:Nat):Held f f k k a 0:=⟨fun p=>by rw [decide_eq_false (by omega)];simp,rfl⟩
variable {B b base g g2 j k m n n0 num sb:Nat} {f:Nat→Option Nat}
theorem Held.next {g:Nat→Option Nat} {k1 a:Nat} (h:Held f g k k1 a j) (b:Nat):Held f (hf g (a+j) b) k (hk g (a+j) k1) a (j+1):=by
 have hs:(g (a+j)).isSome=(f (a+j)).isSome:=by rw [h.some_];rw [decide_eq_false (by omega)];simp
 refine ⟨fun p=>?_,?_⟩
 ·unfold hf;by_cases e:p=a+j
  ·subst e;rw [decide_eq_true (by omega)];rcases hc:(g (a+j)).isSome with _|_
   ·simp [zAF]
   ·simp [hc]
  ·have:decide (a≤p∧p<a+(j+1))=decide (a≤p∧p<a+j):=by
    by_cases h1:a≤p∧p<a+j
    ·rw [decide_eq_true h1,decide_eq_true (by omega)]
    ·rw [decide_eq_false h1,decide_eq_false (by omega)]
   rw [this,← h.some_]
   split
   ·rfl
   ·rw [zn _ _ _ e]
 ·unfold hk;simp only [cnt];rw [hs,h.count]
  split<;>omega
variable {a ba c e en l mo p:Int} {M M' st st' st1:Nat→Int} {S T U:Nat→Prop} {Y:Rest} {d pm sm:Value} {w w' w0 w1 w2 w8 w9 wr:World}
theorem SA.copyRun (h:SA Y S w sb n f k M st pm sm c l) {off:Nat} (hb:f num=some b) (hoff:off<4096)
 (A:Option Addr) (sLen sCap:Nat) (zs:List Int) (hr:Rd w A zs) (hl:zs.length=sLen) (h0:0<sLen) (ty:TypeId):
  ∃ (w':World) (dn:Nat),dn=min sLen (4096 - off)∧(Builtin.copy_ #[22,22] ty #[.slice (some ⟨b,off,none⟩) (4096 - off) (4096 - off),.slice A sLen sCap]).run prog w=.ok (.int .i64 (dn:Int)) w' ∧
   SA Y S w' sb n f k (lay M (num*4096+off) (zs.take dn)) st pm sm c l∧Fr S w w':=by
 obtain ⟨ad,rfl,hc⟩:=hr (by omega);have hz:(zs.take (min sLen (4096 - off))).length=min sLen (4096 - off):=by rw [List.length_take,hl];omega
 have hbb:=(h.at_ num b hb).2;have hrun:=run_copy_row (P:=prog) w 22 22 ty 5 b off (4096 - off) (4096 - off) ad sLen sCap _ 173 (zJ (zs.take (min sLen (4096 - off)))) underlying22 sizeByte hbb (by rw [zAB,hz]) (fun j v hj=>by
  obtain ⟨h1,rfl⟩:=zDx _ _ _ hj;rw [hz] at h1;rw [hc j (by omega),List.getD_eq_getElem?_getD,List.getD_eq_getElem?_getD,List.getElem?_take_of_lt h1]) (by rw [zAB,hz,List.size_toArray,zAB,zq];omega) (zEJ _)
 rw [zAB,hz] at hrun;refine ⟨_,_,rfl,hrun,h.write hb (by rw [hz];omega) ?_ ?_,?_⟩
 ·exact ⟨rfl,rfl,rfl,by simp [World.setRow],fun x _ hne=>setRow_other w b x _ (fun e=>hne (by rw [e]))⟩
 ·rw [setRow_heap w b _ _ 173 _ hbb];simp only [splice,zJ,List.map_append,List.map_take,List.map_drop,hz,List.append_assoc]
 ·exact ⟨rfl,rfl,rfl,by simp [World.setRow],fun x _ hne=>setRow_other w b x _ (fun e=>hne (by rw [e];exact (h.at_ num b hb).1))⟩
theorem zJh (b off:Nat) (h:off<4096) (w:World):(Instr.sliceAt 173 (.pointer (some ⟨b,0,none⟩)) (some (.int .u64 (off:Int))) none none).run prog w=.ok (.slice (some ⟨b,off,none⟩) (4096 - off) (4096 - off)) w:=by
 obtain ⟨i0,hi0,hz0,hz1,hz2⟩:=info_parts infoByte;have h1:(0:Int)≤(off:Int)∧(off:Int)≤((4096:Nat):Int):=by omega
 have h2:¬ 4096=off:=by omega
 have hadd:(⟨b,0,none⟩:Addr).add off=⟨b,off,none⟩:=by unfold Addr.add;split<;>simp_all
 simp [Instr.sliceAt,run_underlying underlying173,Instr.sureAddr,Instr.sliceBounds,Instr.sliceBound,asIntOf,sizeOf,typeInfo,hi0,hz1,h1,h2,hadd,Result.andThen];rw [if_pos (by omega)];simp [h2,hadd]
def lenV:Value→Nat | .slice _ n _=>n|_=>0
def zCT (addr r:Nat):Nat:=if r=0 then 0 else (addr+r - 1)/4096+1 - addr/4096
def WritePost (Y:Rest) (S:Nat→Prop) (w:World) (sb n:Nat) (f:Nat→Option Nat) (k:Nat) (M st:Nat→Int) (addr:Nat) (ys:List Int) (e:Ending) (w':World):Prop:=
 e=.returned (.tuple #[])∧∃ f' k' st',zW Y S w' sb (n+3*zCT addr ys.length) f' k' (lay M addr ys) st'∧Fr S w w'∧Held f f' k k' (addr/4096) (zCT addr ys.length)∧Rise st st' (fun p=>addr/4096≤p∧p<addr/4096+zCT addr ys.length)
variable {xs:List Int} {A:Option Addr}
theorem Rd.fr (h:Rd w A xs) (hf:Fr S w w') (hA:0<xs.length→∀ ad,A=some ad→¬ S ad.block):Rd w' A xs:=by
 intro h0;obtain ⟨ad,rfl,hc⟩:=h h0;refine ⟨ad,rfl,fun i hi=>?_⟩;have h1:=hc i hi;rw [World.cell?_of_block (w:=w) (hf.block _ (block_lt_of_cell h1) (by rw [add_block];exact hA h0 ad rfl))];exact h1
theorem Rd.take (h:Rd w A xs) (k:Nat):Rd w A (xs.take k):=by
 intro h0;rw [List.length_take] at h0;obtain ⟨ad,rfl,hc⟩:=h (by omega);refine ⟨ad,rfl,fun i hi=>?_⟩;rw [List.length_take] at hi;rw [hc i (by omega),List.getD_eq_getElem?_getD,List.getD_eq_getElem?_getD,List.getElem?_take_of_lt (by omega)]
structure WR (Y:Rest) (S:Nat→Prop) (w:World) (sb n:Nat) (f:Nat→Option Nat) (k:Nat) (M st:Nat→Int) (addr:Nat) (ys:List Int) (j t:Nat) (wr:World) (A:Option Addr) (cap:Nat):Prop where
 le:t≤ys.length
 cap_:ys.length - t≤cap
 rd:Rd wr A (ys.drop t)
 out:t<ys.length→∀ ad,A=some ad→¬ S ad.block
 at_:∃ f' k' st',zW Y S wr sb (n+3*j) f' k' (lay M addr (ys.take t)) st'∧Held f f' k k' (addr/4096) j∧Rise st st' (fun p=>addr/4096≤p∧p<addr/4096+j)
 fr:Fr S w wr
 page:t<ys.length→(addr+t)/4096=addr/4096+j
 done:(t=0∧j=0)∨(0<t∧(addr+t - 1)/4096+1=addr/4096+j)
theorem WR.step {addr:Nat} {ys:List Int} {t:Nat} {B:Option Addr} {cp:Nat} (h:WR Y S w sb n f k M st addr ys j t wr B cp) (hlt:t<ys.length)
 {f1:Nat→Option Nat} {k1:Nat} {st2:Nat→Int} (hris:Rise st st1 (fun p=>addr/4096≤p∧p<addr/4096+j)) (hheld:Held f f1 k k1 (addr/4096) j) {off dn:Nat} (hnum:num=(addr+t)/4096) (hoff:off=(addr+t)%4096) (hdn:dn=min (ys.length - t) (4096 - off)) {w3:World}
 (hst:zW Y S w3 sb (n+3*j+1+2) (hf f1 num b) (hk f1 num k1) (lay (lay M addr (ys.take t)) (num*4096+off) ((ys.drop t).take dn)) st2) (hris2:Rise st1 st2 (fun p=>p=num)) (fr:Fr S wr w3):
  WR Y S w sb n f k M st addr ys (j+1) (t+dn) w3 (if cp=dn then B else B.map (·.add dn)) (cp - dn):=by
 have hpage:=h.page hlt;have hcap:=h.cap_;have hle:=h.le;have hd0:0<dn:=by omega
 have hd1:dn≤ys.length - t:=by omega
 refine ⟨by omega,by omega,?_,?_,⟨hf f1 num b,hk f1 num k1,st2,?_,?_,?_⟩,h.fr.trans fr,fun hx=>?_,.inr ⟨by omega,?_⟩⟩
 ·have h1:=(h.rd.fr fr (fun h0=>h.out hlt)).drop dn cp (by rw [List.length_drop];omega) (by rw [List.length_drop];omega);rw [List.drop_drop] at h1;exact h1
 ·intro _ ad had
  split at had
  ·exact h.out hlt ad had
  ·rcases B with _|a0
   ·cases had
   ·simp only [Option.map_some,Option.some.injEq] at had;subst had;rw [add_block];exact h.out hlt a0 rfl
 ·have e1:lay (lay M addr (ys.take t)) (num*4096+off) ((ys.drop t).take dn)=lay M addr (ys.take (t+dn)):=by
   have e2:num*4096+off=addr+(ys.take t).length:=by rw [List.length_take];omega
   rw [e2,zKM,List.take_add]
  rw [e1] at hst;exact hst.mono (by omega)
 ·have e3:num=addr/4096+j:=by omega
  rw [e3];exact hheld.next b
 ·exact (hris.trans hris2).mono fun p hp=>by
   by_cases e:p=num
   ·exact .inr e
   ·exact .inl (by omega)
 ·omega
 ·omega
theorem write_any (h:zW Y S w sb n f k M st) (addr:Nat) (A:Option Addr) (len cap:Nat) (xs:List Int) (hr:Rd w A xs) (hl:xs.length=len) (hlc:len≤cap)
 (hA:0<len→∀ ad,A=some ad→¬ S ad.block) (ha:addr<2^64) (hlen:len≤4194304) (hn:n<90000000) (hS:∀ b,w.heap.size≤b→S b):
  Calls prog 48 #[.pointer (some ⟨sb,1,none⟩),.int .u64 (addr:Int),.slice A len cap] w (WritePost Y S w sb n f k M st addr (xs.take (room addr len))):=by
 have cb:=zIO addr len w (by omega);have hroom:room addr len≤len:=Nat.min_le_left _ _;have hrin:room addr len≤274877906944 - addr:=Nat.min_le_right _ _;have hy:(xs.take (room addr len)).length=room addr len:=by rw [List.length_take];omega
 have hry:=hr.take (room addr len);generalize room addr len=R at *;generalize xs.take R=ys at *;have hx0:(0:Int)≤(addr:Int):=by omega
 have hx1:(addr:Int)≤18446744073709551615:=by omega
 have hlI:(len:Int)≤4194304:=by omega
 have hRl:(R:Int)≤(len:Int):=by omega
 have hRc:(R:Int)≤(cap:Int):=by omega
 have HA:=hid ha;clear ha;have HRI:=hid hrin;clear hrin;have HLN:=hid hlen;clear hlen;have HH:=hid h;clear h;have CB:=hid cb;clear cb;have HY:=hid hy;clear hy;have HRY:=hid hry;clear hry;have HL:=hid hl;clear hl;have HR:=hid hr;clear hr;have HS:=hid hS;clear hS;have HAA:=hid hA;clear hA;have HN:=hid hn;clear hn;(try unfold zB)
 obtain ⟨x,hx⟩:∃ x:Int,x=(addr:Int):=⟨_,rfl⟩;rw [← hx] at hx0 hx1 CB ⊢;have HX:=hid hx;clear hx;go_enter func48,ntmps48;go_wp2_with fail;refine CB.out.mono ?_;rintro e w' ⟨rfl,rfl⟩;go_wp2_with fail;clear hlI
 go_loopw [1,2,6,7] (fun v1 v2 _ _ wr=>∃ (j t cp:Nat) (B:Option Addr),v1=.int .u64 ((addr+t:Nat):Int)∧v2=.slice B (R - t) cp∧WR Y S w sb n f k M st addr ys j t wr B cp) (fun _ v2 _ _ _=>lenV v2)
 case atStart =>
  refine ⟨0,0,cap,A,?_,rfl,?_⟩
  ·rw [HX.out];rfl
  ·exact ⟨Nat.zero_le _,by rw [HY.out];omega,HRY.out,(fun h0=>HAA.out (by rw [HY.out] at h0;omega)),⟨f,k,st,by simpa [zKL] using HH.out,Held.none_ f k _,(Rise.refl st).mono fun p hp=>by omega⟩,Fr.refl _ _,fun _=>by simp,.inl ⟨rfl,rfl⟩⟩
 case round =>
  obtain ⟨j,t,cp,B,rfl,rfl,hw⟩:=hrel;clear hx0 hx1 CB HX;by_cases hlt:t<R
  ·have hrl:0<R - t:=by omega
   have hrlI:(0:Int)<((R - t:Nat):Int):=by omega
   have hpage:=hw.page (by rw [HY.out];exact hlt);obtain ⟨num,hnum⟩:∃ num,num=(addr+t)/4096:=⟨_,rfl⟩;obtain ⟨off,hoff⟩:∃ off,off=(addr+t)%4096:=⟨_,rfl⟩;obtain ⟨x,hx⟩:∃ x:Int,x=((addr+t:Nat):Int):=⟨_,rfl⟩;have hxn:x/4096=(num:Int):=by omega
   have hxo:x%4096=(off:Int):=by omega
   have hx0:0≤x:=by omega
   have hx1:x≤274877906944:=by have:=HRI.out;omega
   have ho:(off:Int)<4096:=by omega
   rw [← hx];have HX:=hid hx;clear hx;have HNUM:=hid hnum;clear hnum;have HOFF:=hid hoff;clear hoff;have HP:=hid hpage;clear hpage;obtain ⟨f1,k1,st1,hst,hheld,hris⟩:=hw.at_;have HW:=hid hw;clear hw;have HST:=hid hst;clear hst;have HHELD:=hid hheld;clear hheld;have HRIS:=hid hris;clear hris;go_wp2_with fail;have hj:j≤1100:=by
    have h1:=HW.out.done;have h2:=HLN.out;have h3:=hroom;rcases h1 with ⟨_,h1⟩|⟨_,h1⟩<;>omega
   have hNlim:num<67108864:=by
    have h1:=HRI.out;have h2:=HNUM.out;omega
   have hSr:∀ b,wr.heap.size≤b→S b:=fun b hb=>HS.out b (Nat.le_trans HW.out.fr.size hb)
   have hN:=HN.out;refine (hold_any HST.out num hNlim (by omega) hSr).mono ?_;rintro e w1 ⟨b,rfl,hst1,hb1,fr1⟩;obtain ⟨pm,sm,c,l,hsa⟩:=hst1;have rd1:=HW.out.rd.fr fr1 (fun _=>HW.out.out (by rw [HY.out];exact hlt));have hzl:(ys.drop t).length=R - t:=by rw [List.length_drop,HY.out]
   have hoffN:off<4096:=by omega
   have hSr1:=hSr;clear hSr hN hNlim;have HSA:=hid hsa;clear hsa;have HB1:=hid hb1;clear hb1;have RD1:=hid rd1;clear rd1;have HZ:=hid hzl;clear hzl;have FR1:=hid fr1;clear fr1;have HJ:=hid hj;clear hj;have HSR:=hid hSr1;clear hSr1;have hsl:=zJh b off hoffN;obtain ⟨w2,dn,hdn,hcp,hsa2,fr2⟩:=HSA.out.copyRun HB1.out hoffN B (R - t) cp _ RD1.out HZ.out hrl 3;have HDN:=hid hdn;clear hdn;have HSA2:=hid hsa2;clear hsa2;have FR2:=hid fr2;clear fr2;have hd1:dn≤R - t:=by rw [HDN.out];omega
   have hdI:(dn:Int)≤((R - t:Nat):Int):=by omega
   have hdc:(dn:Int)≤(cp:Int):=by have:=HW.out.cap_;rw [HY.out] at this;omega
   (try unfold zB)
   go_wp2_with fail;have hN:=HN.out;have hJ:=HJ.out;have hs2:S w2.heap.size:=HSR.out _ (Nat.le_trans FR1.out.size FR2.out.size);refine (zHm ⟨_,_,_,_,HSA2.out⟩ num (by have:=HNUM.out;have:=HRI.out;omega) (by omega) hs2).mono ?_;rintro e w3 ⟨rfl,⟨st3,hst3,hris3⟩,fr3⟩;have hstep:=HW.out.step (by rw [HY.out];exact hlt) HRIS.out HHELD.out HNUM.out HOFF.out (by rw [HY.out];exact HDN.out) hst3 hris3 ((FR1.out.trans FR2.out).trans fr3);have HSTEP:=hid hstep;clear hstep hst3 hris3 fr3 hN hJ hs2 hcp hsl;have hdx:x+(dn:Int)≤274877906944:=by have:=HX.out;have:=HRI.out;omega
   go_wp2_with fail;refine ⟨⟨j+1,t+dn,cp - dn,_,?_,?_,HSTEP.out⟩,?_⟩
   ·rw [HX.out];congr 1;omega
   ·congr 1;omega
   ·simp only [lenV];have h1:=HDN.out;omega
  ·have hw':=hw;have ht:t=R:=by have:=hw.le;rw [HY.out] at this;omega
   have HW:=hid hw;clear hw hw';have HT:=hid ht;have h0:R - t=0:=by omega
   rw [h0];clear ht hlt h0;have CNT:=hid hroom;go_wp2_with fail
   go_end0
   refine ⟨rfl,?_⟩;obtain ⟨f',k',st',hst,hheld,hris⟩:=HW.out.at_;have hj:zCT addr ys.length=j:=by
    have h1:=HW.out.done;rw [HT.out] at h1;unfold zCT;rw [HY.out]
    split
    ·omega
    ·rcases h1 with h1|h1<;>omega
   have hty:ys.take t=ys:=List.take_of_length_le (by rw [HY.out,HT.out];exact Nat.le_refl _);rw [hj];rw [hty] at hst;exact ⟨f',k',st',hst,HW.out.fr,hheld,hris⟩
def zf (M:Nat→Int) (addr m:Nat):List Int:=(List.range m).map fun i=>M (addr+i)
theorem zT (M:Nat→Int) (addr m:Nat):(zf M addr m).length=m:=by simp [zf]
theorem zCD (M:Nat→Int) (addr m i:Nat) (h:i<m):(zf M addr m)[i]?=some (M (addr+i)):=by simp [zf,List.getElem?_range h]
theorem zGK (M:Nat→Int) (addr t d:Nat):zf M addr (t+d)=zf M addr t++zf M (addr+t) d:=by
 simp only [zf,List.range_add,List.map_append,List.map_map]
 congr 1
 apply List.map_congr_left
 intro i _;simp [Nat.add_assoc]
theorem bytesAt_zero (M:Nat→Int) (addr d:Nat) (h:∀ i,i<d→M (addr+i)=0):zf M addr d=List.replicate d 0:=by
 apply List.ext_getElem?
 intro i;by_cases hi:i<d
 ·rw [zCD _ _ _ _ hi,h i hi,List.getElem?_replicate,if_pos hi]
 ·rw [List.getElem?_eq_none (by rw [zT];omega),List.getElem?_eq_none (by simp;omega)]
theorem made_bytes (n:Nat):madeCells #[.int .u8 0] n=(zJ (List.replicate n 0)).toArray:=by
 apply Array.ext
 ·simp [madeCells,zJ]
 ·intro i h1 h2;simp [madeCells,zJ,Nat.mod_one]
theorem made29 (m:Nat) (hm:m≤4194304) (w:World):(Instr.makeSlice 22 (.int .i64 (m:Int)) (.int .i64 (m:Int))).run prog w=.ok (.slice (some ⟨w.heap.size,0,none⟩) m m) (w.alloc (.cells (zJ (List.replicate m 0)).toArray 5)):=by
 obtain ⟨i0,hi0,hz0,hz1,hz2⟩:=info_parts infoByte;have h:=run_make (P:=prog) w 22 5 i0 (.int .u8 0) underlying22 hi0 hz0 .i64 .i64 m m (by omega) (by omega) (by rw [hz2];omega) (by omega);rw [← made_bytes]
 simpa [hz1,Value.cells] using h
def part (M:Nat→Int) (addr m t:Nat):List Int:=zf M addr t++List.replicate (m - t) 0
theorem part_length (M:Nat→Int) (addr m t:Nat) (h:t≤m):(part M addr m t).length=m:=by simp [part,zT];omega
theorem zHv (M:Nat→Int) (addr m t d:Nat) (h:t+d≤m) (hz:∀ i,i<d→M (addr+t+i)=0):part M addr m (t+d)=part M addr m t:=by
 unfold part;rw [zGK,bytesAt_zero M (addr+t) d hz,List.append_assoc,List.replicate_append_replicate]
 congr 2;omega
theorem part_copy (M:Nat→Int) (addr m t d:Nat) (h:t+d≤m):splice (part M addr m t) t (zf M (addr+t) d)=part M addr m (t+d):=by
 have e1:(part M addr m t).take t=zf M addr t:=by
  unfold part;rw [List.take_append_of_le_length (by rw [zT];exact Nat.le_refl _)];exact List.take_of_length_le (by rw [zT];exact Nat.le_refl _)
 have e2:(part M addr m t).drop (t+d)=List.replicate (m - (t+d)) 0:=by
  unfold part;rw [List.drop_append,List.drop_of_length_le (by rw [zT];omega),List.nil_append,List.drop_replicate,zT]
  congr 1;omega
 simp only [splice,zT,e1,e2];unfold part;rw [zGK,List.append_assoc]
theorem zW.beyond (h:zW Y S w sb n f k M st) (a:Nat) (ha:274877906944≤a):M a=0:=by
 obtain ⟨pm,sm,c,l,h⟩:=h;have h1:f (a/4096)=none:=by
  rcases e:f (a/4096) with _|b
  ·rfl
  ·have:=h.lim _ _ e;omega
 have:=h.zero (a/4096) (a%4096) h1 (by omega)
 rwa [show a/4096*4096+a%4096=a by omega] at this
theorem SA.readRun (h:SA Y S w sb n f k M st pm sm c l) {off:Nat} (hb:f num=some b) (g t dn dc m addr:Nat)
 (hg:w.heap[g]?=some (.cells (zJ (part M addr m t)).toArray 5 (0,0))) (ht:t+dn≤m) (hoff:off+dn≤4096) (he:num*4096+off=addr+t) (hbl:Bl w0 w) (hg0:w0.heap.size≤g) (ty:TypeId):
  ∃ w',(Builtin.copy_ #[22,22] ty #[.slice (some ⟨g,t,none⟩) dn dc,.slice (some ⟨b,off,none⟩) (4096 - off) (4096 - off)]).run prog w=.ok (.int .i64 (dn:Int)) w' ∧
   w'.heap[g]?=some (.cells (zJ (part M addr m (t+dn))).toArray 5 (0,0))∧Bl w0 w':=by
 have hbb:=(h.at_ num b hb).2;have hcl:(zJ (zf M (addr+t) dn)).length=dn:=by rw [zAB,zT]
 have hrun:=run_copy_row (P:=prog) w 22 22 ty 5 g t dn dc ⟨b,off,none⟩ (4096 - off) (4096 - off) _ 5 (zJ (zf M (addr+t) dn)) underlying22 sizeByte hg (by rw [hcl];exact (Nat.min_eq_right (by omega)).symm) (fun j v hj=>by
  obtain ⟨h1,rfl⟩:=zDx _ _ _ hj;rw [zT] at h1;have e1:(⟨b,off,none⟩:Addr).add j=⟨b,off+j,none⟩:=by unfold Addr.add;split<;>simp_all
  rw [e1,cell_of_row w b (off+j) _ 173 (0,0) hbb];simp only [List.getElem?_toArray];rw [zDW _ _ (by rw [zq];omega),List.getD_eq_getElem?_getD,zBM _ _ _ (by omega),List.getD_eq_getElem?_getD,zCD _ _ _ _ h1];have e2:num*4096+(off+j)=addr+t+j:=by omega
  rw [e2]) (by rw [hcl,List.size_toArray,zAB,part_length _ _ _ _ (by omega)];exact ht) (zEJ _)
 rw [hcl] at hrun;refine ⟨_,hrun,?_,below_setRow hbl hg0 _⟩;rw [setRow_heap w g _ _ 5 _ hg,← part_copy M addr m t dn ht];simp only [splice,zJ,List.map_append,List.map_take,List.map_drop,zT,List.append_assoc]
theorem zHn (A:Option Addr) (len cap k:Nat) (h:k≤cap) (w:World):(Instr.sliceAt 22 (.slice A len cap) none (some (.int .i64 (k:Int))) none).run prog w=.ok (.slice A k cap) w:=by
 obtain ⟨i0,hi0,hz0,hz1,hz2⟩:=info_parts infoByte;have hA:A.map (fun a=>a.add 0)=A:=by cases A<;>simp [Addr.add]
 have h1:(0:Int)≤(k:Int)∧(k:Int)≤(cap:Int):=by omega
 simp [Instr.sliceAt,Instr.slice,run_underlying underlying22,Instr.sliceBounds,Instr.sliceBound,asIntOf,sizeOf,typeInfo,hi0,hz1,Result.andThen];rw [if_pos h];simp [hA]
section
variable {P:Program} (w:World) {ops:Array Oper} {rest:List Oper} {o:Oper} {a:Act} {Q:Exit→Act→World→Prop}
theorem wpl_copy_run (hg:o.guard=none) (d s:Operand) (dT sT:TypeId) (ho:o.op=.call { callee:=.builtin .copy,args:=#[d,s],argTypes:=#[dT,sT] }) (vd vs v1:Value) (hd:a.eval d=vd) (hs:a.eval s=vs)
 (hrun:(Builtin.copy_ #[dT,sT] o.type #[vd,vs]).run P w=.ok v1 w1) (hK:wpList P ops Q rest (a.put o.dst v1) w1):wpList P ops Q (o :: rest) a w:=by
 refine wpList_plain hg fun K hK'=>?_
 unfold Oper.wp;simp [execOp,ho,resolve,invoke,builtin,hd,hs,hrun,Result.andThen];exact hK' _ _ hK
end
def zFO (w:World) (M:Nat→Int) (addr m:Nat) (e:Ending) (w':World):Prop:=
 e=.returned (.slice (some ⟨w.heap.size,0,none⟩) m m)∧w'.heap[w.heap.size]?=some (.cells (zJ (zf M addr m)).toArray 5 (0,0))∧Bl w w'
theorem zIu (h:zW Y S w sb n f k M st) (addr m:Nat) (ha:addr<2^64) (hm1:1≤m) (hm:m≤4194304):
  Calls prog 61 #[.pointer (some ⟨sb,1,none⟩),.int .u64 (addr:Int),.int .i64 (m:Int)] w (zFO w M addr m):=by
 have cb:=fun W=>zIO addr m W (by omega)
 have hroom:room addr m≤m:=Nat.min_le_left _ _;have hrin:room addr m≤274877906944 - addr:=Nat.min_le_right _ _;have hrz:room addr m<m→274877906944≤addr+room addr m:=by unfold room;omega
 generalize room addr m=R at *;have hx0:(0:Int)≤(addr:Int):=by omega
 have hx1:(addr:Int)≤18446744073709551615:=by omega
 have hlI:(m:Int)≤4194304:=by omega
 have hl1:(1:Int)≤(m:Int):=by omega
 have hRl:(R:Int)≤(m:Int):=by omega
 have hmk:=fun W=>made29 m hm W
 have HA:=hid ha;clear ha;have HRI:=hid hrin;clear hrin;have HRZ:=hid hrz;clear hrz;have HH:=hid h;clear h;have CB:=hid cb;clear cb;(try unfold zB)
 obtain ⟨x,hx⟩:∃ x:Int,x=(addr:Int):=⟨_,rfl⟩;rw [← hx] at hx0 hx1 CB ⊢;have HX:=hid hx;clear hx;go_enter func61,ntmps61;go_wp2_with fail;refine (CB.out _).mono ?_;rintro e w' ⟨rfl,rfl⟩;go_wp2_with fail;clear hmk CB hx0 hx1;have h0:Bl w (w.alloc (.cells (zJ (List.replicate m 0)).toArray 5)):=Bl.new _ _;have hg0:(w.alloc (.cells (zJ (List.replicate m 0)).toArray 5)).heap[w.heap.size]?=some (.cells (zJ (part M addr m 0)).toArray 5 (0,0)):=by
  rw [heap_alloc_new];simp [part,zf]
 have H0:=hid h0;clear h0;have HG0:=hid hg0;clear hg0;generalize w.alloc (.cells (zJ (List.replicate m 0)).toArray 5)=W at *
 go_loopw [1,8,9,10] (fun v1 v8 _ _ wr=>∃ (t:Nat) (B:Option Addr),v1=.int .u64 ((addr+t:Nat):Int)∧v8=.slice B (R - t) (m - t)∧(t<R→B=some ⟨w.heap.size,t,none⟩)∧t≤R∧wr.heap[w.heap.size]?=some (.cells (zJ (part M addr m t)).toArray 5 (0,0))∧Bl w wr) (fun _ v8 _ _ _=>lenV v8)
 case atStart=>exact ⟨0,_,by rw [HX.out];rfl,rfl,fun _=>rfl,Nat.zero_le _,HG0.out,H0.out⟩
 case round =>
  obtain ⟨t,B,rfl,rfl,hB,htR,hg,hbl⟩:=hrel;clear HX;have HG:=hid hg;clear hg;have HBL:=hid hbl;clear hbl;by_cases hlt:t<R
  ·obtain rfl:=hB hlt;clear hB;have hrlI:(0:Int)<((R - t:Nat):Int):=by omega
   obtain ⟨num,hnum⟩:∃ num,num=(addr+t)/4096:=⟨_,rfl⟩;obtain ⟨off,hoff⟩:∃ off,off=(addr+t)%4096:=⟨_,rfl⟩;obtain ⟨x,hx⟩:∃ x:Int,x=((addr+t:Nat):Int):=⟨_,rfl⟩;obtain ⟨dn,hdn⟩:∃ dn,dn=min (R - t) (4096 - off):=⟨_,rfl⟩;have hxn:x/4096=(num:Int):=by omega
   have hxo:x%4096=(off:Int):=by omega
   have hx0:0≤x:=by omega
   have hx1:x≤274877906944:=by have:=HRI.out;omega
   have ho:(off:Int)<4096:=by omega
   have hd0:(0:Int)≤(dn:Int):=by omega
   have hdx:x+(dn:Int)≤274877906944:=by have:=HRI.out;omega
   have hdR:(dn:Int)≤((R - t:Nat):Int):=by omega
   have hdm:(dn:Int)≤((m - t:Nat):Int):=by omega
   have hmn:∀ W',(Builtin.min_ #[3,3] 3 #[.int .i64 ((R - t:Nat):Int),.int .i64 (4096 - (off:Int))]).run prog W'=.ok (.int .i64 (dn:Int)) W':=by
    intro W';rw [zDr]
    congr 2
    split<;>omega
   have hSA:=HH.out.bl HBL.out;obtain ⟨pm,sm,c,l,hSA⟩:=hSA;obtain ⟨c0,c1,c2,c3⟩:=hSA.cell;have hlook:=hSA.pages.look (show num<2^64 by have:=HRI.out;omega);rw [← hx];have HX:=hid hx;clear hx;have HNUM:=hid hnum;clear hnum;have HOFF:=hid hoff;clear hoff;have HDN:=hid hdn;clear hdn;have HSA:=hid hSA;clear hSA;rcases hb:f num with _|b
   ·rw [hb] at hlook;simp only [zFv,Option.map_none] at hlook;have HB:=hid hb;clear hb;go_wp2_with fail;have hd2:dn≤R - t:=by omega
    have hd3:0<dn:=by have:=HDN.out;have:=HOFF.out;omega
    refine ⟨⟨t+dn,(if m - t=dn then some ⟨w.heap.size,t,none⟩ else some ⟨w.heap.size,t+dn,none⟩),?_,?_,fun hlt2=>?_,by omega,?_,HBL.out⟩,?_⟩
    ·rw [HX.out];congr 1;omega
    ·congr 1<;>omega
    ·rw [if_neg (by omega)]
    ·rw [zHv M addr m t dn (by omega) (fun i hi=>?_)]
     ·exact HG.out
     ·have h1:=HSA.out.zero num (off+i) HB.out (by have:=HDN.out;omega);have h2:num*4096+(off+i)=addr+t+i:=by have:=HNUM.out;have:=HOFF.out;omega
      rwa [h2] at h1
    ·simp only [lenV];omega
   ·rw [hb] at hlook;simp only [zFv,Option.map_some] at hlook;have HB:=hid hb;clear hb;have hoffN:off<4096:=by omega
    have hsl:=zJh b off hoffN;have hs2:=zHn (some ⟨w.heap.size,t,none⟩) (R - t) (m - t) dn (by omega);go_wp2_with fail;have hxt:x.tmod 4096=(off:Int):=by rw [Int.tmod_eq_emod_of_nonneg hx0];exact hxo
    go_still_tail 8,(by kernel_rfl)
    change wpList _ _ _ _ _ wr.drew;have hd2:dn≤R - t:=by omega
    have hd3:0<dn:=by have:=HDN.out;have:=HOFF.out;omega
    obtain ⟨w2,hcp,hg2,hbl2⟩:=(HSA.out.bl (Bl.refl wr).drew).readRun (off:=off) HB.out w.heap.size t dn (m - t) m addr HG.out (by omega) (by have:=HDN.out;omega) (by have:=HNUM.out;have:=HOFF.out;omega) HBL.out.drew (Nat.le_refl _) 3;have HG2:=hid hg2;clear hg2;have HBL2:=hid hbl2;clear hbl2;refine wpl_copy_run _ rfl (.tmp 49) (.tmp 54) 22 22 rfl _ _ _ rfl rfl hcp ?_;clear hcp hxt hs2 hsl hlook c0 c1 c2 c3 hmn;go_wp2_with fail;refine ⟨⟨t+dn,(if m - t=dn then some ⟨w.heap.size,t,none⟩ else some ⟨w.heap.size,t+dn,none⟩),?_,?_,fun hlt2=>?_,by omega,HG2.out,HBL2.out⟩,?_⟩
    ·rw [HX.out];congr 1;omega
    ·congr 1<;>omega
    ·rw [if_neg (by omega)]
    ·simp only [lenV];omega
  ·have ht:t=R:=by omega
   have HT:=hid ht;have h0:R - t=0:=by omega
   rw [h0];clear ht hlt h0 hB;go_wp2_with fail;go_ret;refine ⟨rfl,?_,HBL.out⟩;have e:part M addr m t=zf M addr m:=by
    have e1:=HRZ.out;rw [HT.out];obtain ⟨d,hd⟩:∃ d,m=R+d:=⟨m - R,by omega⟩;have e2:part M addr m (R+d)=part M addr m R:=zHv M addr m R d (by omega) (fun i hi=>HH.out.beyond _ (by omega));rw [← e2,← hd];simp [part]
   rw [← e];exact HG.out
def zDa (a b:Int):Obj:=.cells #[.int .u64 a,.int .u64 b] 167
def less (S:Nat→Prop) (x:Nat):Nat→Prop:=fun b=>S b∧b≠x
theorem zW.less (h:zW Y S w sb n f k M st) (o:Obj):zW Y (less S w.heap.size) (w.alloc o) sb n f k M st:=by
 have h1:zW Y (YtlhpodholnfppaaGreatDoor.less S w.heap.size) w sb n f k M st:=h.among fun b hb hS=>⟨hS,by omega⟩
 exact h1.bl (Bl.new w o)
variable {o:Obj}
theorem Fr.unless {x:Nat} (h:Fr (less S x) (w.alloc o) w'):Fr S w w':=(Fr.zP (Bl.new w o)).trans (h.mono fun _ _ e=>e.1)
theorem zGM {b:Int} (h:Fr (less S w.heap.size) (w.alloc (zDa a b)) w'):w'.heap[w.heap.size]?=some (.cells #[.int .u64 a,.int .u64 b] 167 (0,0)):=
 h.at_ (heap_alloc_new w _) (fun e=>e.2 rfl)
variable {t t2 ty:TypeId}
theorem zK {x y:Value} (h:w.heap[g]?=some (.cells #[x,y] t (0,0))):w.cell? ⟨g,0,none⟩=some x∧w.cell? ⟨g,1,none⟩=some y:=by
 refine ⟨?_,?_⟩<;>simp [World.cell?,h]
theorem zJH (hS:∀ b,w.heap.size≤b→S b) (h:(w.alloc o).heap.size≤w'.heap.size):∀ b,w'.heap.size≤b→less S w.heap.size b:=fun b hb=>by
 have:(w.alloc o).heap.size=w.heap.size+1:=by simp
 exact ⟨hS b (by omega),by omega⟩
theorem stampAll_narrow (h:zW Y S w sb n f k M st) (a b:Nat) (hab:a<b) (hc:b≤274877906944) (hw:(b - 1)/4096 - a/4096<4096) (hn:n<90000000) (hS:∀ b,w.heap.size≤b→S b):
  Calls prog 114 #[.pointer (some ⟨sb,1,none⟩),span (a:Int) (b:Int)] w fun e w'=>e=.returned (.tuple #[])∧(∃ st',zW Y S w' sb (n+8192) f k M st'∧Rise st st' (fun p=>a/4096≤p∧p≤(b - 1)/4096))∧Fr S w w':=by
 have cw:=fun W=>wide_i (a:Int) (b:Int) W (by omega) (by omega) (by omega)
 rw [decide_eq_false (by omega)] at cw;have cf:=fun W=>zIe (a:Int) (b:Int) W (by omega) (by omega)
 have cl:=fun W=>zKN (a:Int) (b:Int) W (by omega) (by omega)
 obtain ⟨q0,hq0⟩:∃ q0,q0=a/4096:=⟨_,rfl⟩;obtain ⟨q1,hq1⟩:∃ q1,q1=(b - 1)/4096:=⟨_,rfl⟩;have e0:(a:Int)/4096=(q0:Int):=by omega
 have e1:((b:Int) - 1)/4096=(q1:Int):=by omega
 rw [e0] at cf;rw [e1] at cl;have hq01:q0≤q1:=by omega
 have hq2:q1<67108864:=by omega
 have hq3:q1<q0+4096:=by omega
 rw [← hq0,← hq1];clear e0 e1 hq0 hq1 hw;have h1:=h.less (zDa a b);have HH1:=hid h1;clear h1 h;have CW:=hid cw;clear cw;have CF:=hid cf;clear cf;have CL:=hid cl;clear cl;have HS:=hid hS;clear hS;generalize (a:Int)=A at *;generalize (b:Int)=B at *;have fr1:Fr (less S w.heap.size) (w.alloc (zDa A B)) (w.alloc (zDa A B)):=Fr.refl _ _;have FR1:=hid fr1;clear fr1;clear hab hc;(try unfold zB at *);(try unfold span at *)
 go_enter func114,ntmps114;go_wp2_with fail;refine (CW.out _).mono ?_;rintro e w1 ⟨rfl,bl1⟩;have fr2:=FR1.out.trans (Fr.zP bl1);have h2:=HH1.out.bl bl1;obtain ⟨c0,c1⟩:=zK (zGM fr2);have FR2:=hid fr2;clear fr2 FR1 bl1;have H2:=hid h2;clear h2 HH1;go_wp2_with fail;refine (CF.out _).mono ?_;rintro e w2 ⟨rfl,bl2⟩;have fr3:=FR2.out.trans (Fr.zP bl2);have h3:=H2.out.bl bl2;clear c0 c1;have FR3:=hid fr3;clear fr3 FR2 bl2;have H3:=hid h3;clear h3 H2;go_wp2_with fail
 go_loopw [4] (fun v wr=>∃ j:Nat,v=.int .u64 ((q0+j:Nat):Int)∧q0+j≤q1+1∧(∃ st',zW Y (less S w.heap.size) wr sb (n+2*j) f k M st'∧Rise st st' (fun p=>q0≤p∧p<q0+j))∧Fr (less S w.heap.size) (w.alloc (zDa A B)) wr) (fun v _=>q1+1 - (intOf v).toNat)
 case atStart=>exact ⟨0,rfl,by omega,⟨st,H3.out,(Rise.refl st).mono fun p hp=>by omega⟩,FR3.out⟩
 case round =>
  obtain ⟨j,rfl,hj,⟨st1,hst,hris⟩,hfr⟩:=hrel;have HRIS:=hid hris;clear hris;clear H3 FR3;obtain ⟨c0,c1⟩:=zK (zGM hfr);have HST:=hid hst;clear hst;have HFR:=hid hfr;clear hfr;go_wp2_with fail;refine (CL.out _).mono ?_;rintro e w4 ⟨rfl,bl4⟩;have fr4:=HFR.out.trans (Fr.zP bl4);have h4:=HST.out.bl bl4;have FR4:=hid fr4;clear fr4;have H4:=hid h4;clear h4 bl4 c0 c1;by_cases hlt:q0+j≤q1
  ·have hltI:((q0+j:Nat):Int)≤(q1:Int):=by omega
   obtain ⟨x,hx⟩:∃ x,x=q0+j:=⟨_,rfl⟩;rw [← hx] at hltI ⊢;have hxb:(x:Int)≤67108864:=by omega
   have HX:=hid hx;clear hx;go_wp2_with fail;refine (zHm H4.out x (by omega) (by omega) (zJH HS.out FR4.out.size _ (Nat.le_refl _))).mono ?_;rintro e w5 ⟨rfl,⟨st5,h5,hris5⟩,fr5⟩;have HRIS5:=hid hris5;clear hris5;have H5:=hid h5;clear h5;have FR5:=hid fr5;clear fr5;go_wp2_with fail;refine ⟨⟨j+1,by congr 1;have:=HX.out;omega,by have:=HX.out;omega,⟨st5,H5.out,(HRIS.out.trans HRIS5.out).mono fun p hp=>by
    have:=HX.out
    by_cases e:p=x
    ·exact .inr e
    ·exact .inl (by omega)⟩,FR4.out.trans FR5.out⟩,?_⟩
   simp only [intOf]
   have:=HX.out
   omega
  ·have hgt:(q1:Int)<((q0+j:Nat):Int):=by omega
   have hjj:j≤4096:=by omega
   clear hlt;go_wp2_with fail
   go_end0
   exact ⟨rfl,⟨st1,(H4.out.among fun _ _ e=>e.1).mono (by omega),HRIS.out.mono fun p hp=>by omega⟩,FR4.out.unless⟩
def zBO (M:Nat→Int) (a b:Nat):Nat→Int:=fun x=>if a≤x∧x<b then 0 else M x
theorem SA.del (h:SA Y S w sb n f k M st (.map (some B)) sm c l) (hnum:num<2^64) 
 (hd:(Builtin.delete_ #[98,29] ty #[.map (some B),.int .u64 (num:Int)]).run prog w=.ok (.tuple #[]) w'):
  ∃ k',SA Y S w' sb n (put1 f num none) k' (zBO M (num*4096) (num*4096+4096)) st (.map (some B)) sm c l∧k'+(if (f num).isSome then 1 else 0)=k∧Fr S w w':=by
 rcases h.pages with ⟨h0,_⟩|⟨B',h0,hSB,hpm⟩
 ·cases h0
 cases h0;obtain ⟨⟨k',hp,hk⟩,ht⟩:=hpm.del_of hnum hd;have hg:=ht.grown;obtain ⟨_,es,q,hmap⟩:=h.pages.isMap rfl;have other:∀ x o,w.heap[x]?=some o→x≠B→w'.heap[x]?=some o:=fun x o hx hne=>by
  rw [hg.block x (zG hx) (fun e=>hne (by injection e))];exact hx
 have hcell:∀ (x:Nat) (cs:Array Value) (t:TypeId) (fr:Nat × Nat),w.heap[x]?=some (.cells cs t fr)→w'.heap[x]?=some (.cells cs t fr):=fun x cs t fr hx =>
  other x _ hx (fun e=>by rw [e,hmap] at hx;cases hx)
 refine ⟨k',⟨hcell _ _ _ _ h.blk,h.own,h.lw,h.top,.inr ⟨B,rfl,hSB,hp⟩,?_,h.apart,fun p b hb=>?_,fun p q b hp hq=>?_,fun p o hp ho=>?_,fun p b hb=>?_⟩,hk,Fr.grown hg (fun x hx=>by cases hx;exact hSB)⟩
 ·exact h.stamps.kept fun B1 hB1=>by
   obtain ⟨_,es1,q1,h2⟩:=h.stamps.isMap hB1;rw [other _ _ h2 (fun e=>by subst e;exact h.apart _ rfl hB1),h2]
 ·by_cases e:p=num
  ·subst e;rw [zAF] at hb;cases hb
  ·rw [zn _ _ _ e] at hb;refine ⟨(h.at_ p b hb).1,?_⟩;rw [zCN M _ p (fun o ho=>by simp only [zBO];rw [if_neg (by omega)])];exact hcell _ _ _ _ (h.at_ p b hb).2
 ·by_cases e1:p=num
  ·subst e1;rw [zAF] at hp;cases hp
  ·by_cases e2:q=num
   ·subst e2;rw [zAF] at hq;cases hq
   ·rw [zn _ _ _ e1] at hp;rw [zn _ _ _ e2] at hq;exact h.inj p q b hp hq
 ·simp only [zBO];by_cases e:p=num
  ·subst e;rw [if_pos (by omega)]
  ·rw [if_neg (by omega)];rw [zn _ _ _ e] at hp;exact h.zero p o hp ho
 ·by_cases e:p=num
  ·subst e;rw [zAF] at hb;cases hb
  ·rw [zn _ _ _ e] at hb;exact h.lim p b hb
theorem wipe_none (h:SA Y S w sb n f k M st pm sm c l) (num:Nat) (hnum:num<67108864) (A B:Int) (hA:0≤A) (hA1:A≤(num:Int)*4096) (hB1:(num:Int)*4096+4096≤B) (hB:B≤274877906944) (hf:f num=none):
  Calls prog 116 #[.pointer (some ⟨sb,1,none⟩),.int .u64 (num:Int),span A B] w fun e w'=>e=.returned (.tuple #[])∧Bl w w':=by
 have h1:=h.bl (Bl.new w (zDa A B));have hlook:=h1.pages.look (show num<2^64 by omega);rw [hf] at hlook;simp only [zFv,Option.map_none] at hlook;obtain ⟨c0,c1,c2,c3⟩:=h1.cell;obtain ⟨d0,d1⟩:=zK (heap_alloc_new w (zDa A B));have hz:(0:Int)≤(num:Int):=by omega
 have hz1:(num:Int)≤67108864:=by omega
 generalize (num:Int)=x at *;have hmx:∀ W,(Builtin.max_ #[29,29] 29 #[.int .u64 A,.int .u64 (x*4096)]).run prog W=.ok (.int .u64 (x*4096)) W:=fun W=>by
  rw [zEX];congr 2;split<;>omega
 have hmi:∀ W,(Builtin.min_ #[29,29] 29 #[.int .u64 B,.int .u64 (x*4096+4096)]).run prog W=.ok (.int .u64 (x*4096+4096)) W:=fun W=>by
  rw [zDr];congr 2;split<;>omega
 clear h1 h;(try unfold zB at *);(try unfold span at *);(try unfold zDa at *)
 go_enter func116,ntmps116;go_wp2_with fail;refine bodyPost_ret (results_none rfl _ _ _) rfl ?_;exact ⟨rfl,(Bl.new _ _).alloc _⟩
theorem wipe_some {pb:Nat} (h:SA Y S w sb n f k M st (.map (some pb)) sm c l) (num b:Nat) (hnum:num<67108864) (A B:Int) (hA:0≤A) (hA1:A≤(num:Int)*4096) (hB1:(num:Int)*4096+4096≤B) (hB:B≤274877906944) (hf:f num=some b):
  Calls prog 116 #[.pointer (some ⟨sb,1,none⟩),.int .u64 (num:Int),span A B] w fun e w'=>e=.returned (.tuple #[])∧∃ w1,Bl w w1∧(Builtin.delete_ #[98,29] 0 #[.map (some pb),.int .u64 (num:Int)]).run prog w1=.ok (.tuple #[]) w':=by
 have h1:=h.bl (Bl.new w (zDa A B));have hlook:=h1.pages.look (show num<2^64 by omega);rw [hf] at hlook;simp only [zFv,Option.map_some] at hlook;obtain ⟨c0,c1,c2,c3⟩:=h1.cell;obtain ⟨d0,d1⟩:=zK (heap_alloc_new w (zDa A B));have hz:(0:Int)≤(num:Int):=by omega
 have hz1:(num:Int)≤67108864:=by omega
 have H:=hid h;clear h1 h;obtain ⟨x,hx⟩:∃ x:Int,x=(num:Int):=⟨_,rfl⟩;rw [← hx] at hA1 hB1 hlook hz hz1 ⊢;have HX:=hid hx;clear hx;have hmx:∀ W,(Builtin.max_ #[29,29] 29 #[.int .u64 A,.int .u64 (x*4096)]).run prog W=.ok (.int .u64 (x*4096)) W:=fun W=>by
  rw [zEX];congr 2;split<;>omega
 have hmi:∀ W,(Builtin.min_ #[29,29] 29 #[.int .u64 B,.int .u64 (x*4096+4096)]).run prog W=.ok (.int .u64 (x*4096+4096)) W:=fun W=>by
  rw [zDr];congr 2;split<;>omega
 have ce:=fun W=>zIK (x*4096) (x*4096+4096) W
 rw [decide_eq_false (by omega)] at ce;have CE:=hid ce;clear ce;(try unfold zB at *);(try unfold span at *);(try unfold zDa at *)
 go_enter func116,ntmps116;go_wp2_with fail;refine (CE.out _).mono ?_;rintro e w3 ⟨rfl,bl3⟩;have blw:=((Bl.new w (.cells #[.int .u64 A,.int .u64 B] 167)).alloc (.cells #[.int .u64 (x*4096),.int .u64 (x*4096+4096)] 167)).trans bl3;have hp:=bl3.at_ (heap_alloc_new (w.alloc (.cells #[.int .u64 A,.int .u64 B] 167)) (.cells #[.int .u64 (x*4096),.int .u64 (x*4096+4096)] 167));rw [show (w.alloc (.cells #[.int .u64 A,.int .u64 B] 167)).heap.size=w.heap.size+1 by simp] at hp;have h3:=H.out.bl blw;clear c0 c1 c2 c3 d0 d1 hlook hmx hmi bl3;obtain ⟨d0,d1⟩:=zK hp;obtain ⟨c0,c1,c2,c3⟩:=h3.cell;obtain ⟨B',hB',_,hpm⟩:∃ B',Value.map (some pb)=.map (some B')∧S B'∧PM w3 B' n f k:=by
  rcases h3.pages with ⟨h0,_⟩|h0
  ·cases h0
  ·exact h0
 cases hB';obtain ⟨w4,hdel⟩:=hpm.del_run (show num<2^64 by omega) 0;have HDEL:=hid hdel;rw [← HX.out] at hdel;have BLW:=hid blw;clear blw hp h3 hpm;go_wp2_with fail;refine bodyPost_ret (results_none rfl _ _ _) rfl ?_;refine ⟨rfl,w3,BLW.out,?_⟩;rw [HX.out];exact HDEL.out
theorem wipe_any (h:zW Y S w sb n f k M st) (num:Nat) (hnum:num<67108864) (A B:Int) (hA:0≤A) (hA1:A≤(num:Int)*4096) (hB1:(num:Int)*4096+4096≤B) (hB:B≤274877906944):
  Calls prog 116 #[.pointer (some ⟨sb,1,none⟩),.int .u64 (num:Int),span A B] w fun e w'=>e=.returned (.tuple #[])∧(∃ k',zW Y S w' sb n (put1 f num none) k' (zBO M (num*4096) (num*4096+4096)) st∧k'+(if (f num).isSome then 1 else 0)=k)∧Fr S w w':=by
 obtain ⟨pm,sm,c,l,h⟩:=h;rcases hf:f num with _|b
 ·refine (wipe_none h num hnum A B hA hA1 hB1 hB hf).mono ?_;rintro e w' ⟨rfl,bl⟩;have e1:put1 f num none=f:=by
   funext p;by_cases e:p=num
   ·subst e;rw [zAF,hf]
   ·rw [zn _ _ _ e]
  have e2:zBO M (num*4096) (num*4096+4096)=M:=by
   funext x;simp only [zBO]
   split
   ·have:=h.zero num (x - num*4096) hf (by omega)
    rw [show num*4096+(x - num*4096)=x by omega] at this;exact this.symm
   ·rfl
  rw [e1,e2];exact ⟨rfl,⟨k,⟨_,_,_,_,h.bl bl⟩,by simp⟩,Fr.zP bl⟩
 ·obtain ⟨pb,rfl⟩:∃ B,pm=.map (some B):=by
   rcases h.pages with ⟨_,h1,_⟩|⟨B,h0,_⟩
   ·rw [h1 num] at hf;cases hf
   ·exact ⟨B,h0⟩
  refine (wipe_some h num b hnum A B hA hA1 hB1 hB hf).mono ?_;rintro e w' ⟨rfl,w1,bl,hd⟩;obtain ⟨k',h1,h2,h3⟩:=(h.bl bl).del (show num<2^64 by omega) hd;rw [hf] at h2;exact ⟨rfl,⟨k',⟨_,_,_,_,h1⟩,h2⟩,(Fr.zP bl).trans h3⟩
def hcnt (f:Nat→Option Nat) (a:Nat):Nat→Nat
 | 0=>0
 | m+1=>hcnt f a m+(if (f (a+m)).isSome then 1 else 0)
def cut (f:Nat→Option Nat) (a m:Nat):Nat→Option Nat:=fun p=>if a≤p∧p<a+m then none else f p
theorem cut_step (f:Nat→Option Nat) (a m:Nat):put1 (cut f a m) (a+m) none=cut f a (m+1):=by
 funext p
 by_cases e:p=a+m
 ·subst e;rw [zAF];simp only [cut];rw [if_pos (by omega)]
 ·rw [zn _ _ _ e];simp only [cut];by_cases h:a≤p∧p<a+m
  ·rw [if_pos h,if_pos (by omega)]
  ·rw [if_neg h,if_neg (by omega)]
theorem wiped_step (M:Nat→Int) (a m:Nat):zBO (zBO M (a*4096) ((a+m)*4096)) ((a+m)*4096) ((a+m)*4096+4096)=zBO M (a*4096) ((a+(m+1))*4096):=by
 funext x
 simp only [zBO];by_cases h1:(a+m)*4096≤x∧x<(a+m)*4096+4096
 ·rw [if_pos h1,if_pos (by omega)]
 ·rw [if_neg h1];by_cases h2:a*4096≤x∧x<(a+m)*4096
  ·rw [if_pos h2,if_pos (by omega)]
  ·rw [if_neg h2,if_neg (by omega)]
theorem clear_narrow (h:zW Y S w sb n f k M st) (q0 q1:Nat) (h01:q0≤q1) (hq1:q1<67108864) (hq:q1<q0+4096) (hn:n<80000000) (hS:∀ b,w.heap.size≤b→S b):
  Calls prog 67 #[.pointer (some ⟨sb,1,none⟩),.int .u64 ((q0*4096:Nat):Int),.int .u64 (((q1+1)*4096:Nat):Int)] w fun e w'=>e=.returned (.tuple #[])∧(∃ k' st',zW Y S w' sb (n+8192) (cut f q0 (q1+1 - q0)) k' (zBO M (q0*4096) ((q1+1)*4096)) st'∧k'+hcnt f q0 (q1+1 - q0)=k∧Rise st st' (fun p=>q0≤p∧p≤q1))∧Fr S w w':=by
 obtain ⟨a,ha⟩:∃ a,a=q0*4096:=⟨_,rfl⟩;obtain ⟨b,hb⟩:∃ b,b=(q1+1)*4096:=⟨_,rfl⟩;have cw:=fun W=>pwithin_in (a:Int) (b:Int) W (by omega)
 have ce:=fun W=>zIK (a:Int) (b:Int) W
 rw [decide_eq_false (by omega)] at ce;have cs:=fun (W:World) (hW:zW Y (less S W.heap.size) (W.alloc (zDa a b)) sb n f k M st)=>hW
 have cwi:=fun W=>wide_i (a:Int) (b:Int) W (by omega) (by omega) (by omega)
 rw [decide_eq_false (by omega)] at cwi;have cf:=fun W=>zIe (a:Int) (b:Int) W (by omega) (by omega)
 have cl:=fun W=>zKN (a:Int) (b:Int) W (by omega) (by omega)
 have e0:(a:Int)/4096=(q0:Int):=by omega
 have e1:((b:Int) - 1)/4096=(q1:Int):=by omega
 rw [e0] at cf;rw [e1] at cl;clear cs e0 e1;have cst:=fun (W:World) (S':Nat→Prop) (hW:zW Y S' W sb n f k M st) (hS':∀ b,W.heap.size≤b→S' b)=>stampAll_narrow hW a b (by omega) (by omega) (by omega) (by omega) hS'
 have cwp:=fun (W:World) (S':Nat→Prop) (k':Nat) (f':Nat→Option Nat) (M' st':Nat→Int) (hW:zW Y S' W sb (n+8192) f' k' M' st') (num:Nat) (h0:q0≤num) (h1:num≤q1)=>wipe_any hW num (by omega) (a:Int) (b:Int) (by omega) (by omega) (by omega) (by omega)
 rw [← ha,← hb];have HA:=hid ha;clear ha;have HB:=hid hb;clear hb;have HH:=hid h;clear h;have HS:=hid hS;clear hS;have CW:=hid cw;clear cw;have CE:=hid ce;clear ce;have CWI:=hid cwi;clear cwi;have CF:=hid cf;clear cf;have CL:=hid cl;clear cl;have CST:=hid cst;clear cst;have CWP:=hid cwp;clear cwp;generalize (a:Int)=A at *;generalize (b:Int)=B at *;(try unfold zB at *);(try unfold span at *)
 go_enter func67,ntmps67;go_wp2_with fail;refine (CW.out _).mono ?_;rintro e w1 ⟨rfl,bl1⟩;have h1:zW Y (less S w1.heap.size) (w1.alloc (zDa A B)) sb n f k M st:=(HH.out.bl bl1).less _;have hS1:∀ b,w1.heap.size≤b→S b:=fun b hb=>HS.out b (Nat.le_trans bl1.size hb)
 have fr1:Fr (less S w1.heap.size) (w1.alloc (zDa A B)) (w1.alloc (zDa A B)):=Fr.refl _ _;have FR1:=hid fr1;clear fr1;have H1:=hid h1;clear h1;have HS1:=hid hS1;clear hS1;have BL1:=hid bl1;clear bl1;go_wp2_with fail;refine (CE.out _).mono ?_;rintro e w2 ⟨rfl,bl2⟩;have fr2:=FR1.out.trans (Fr.zP bl2);have h2:=H1.out.bl bl2;obtain ⟨c0,c1⟩:=zK (zGM fr2);have FR2:=hid fr2;clear fr2 FR1 bl2;have H2:=hid h2;clear h2 H1;go_wp2_with fail;refine (CST.out _ _ H2.out (zJH HS1.out FR2.out.size)).mono ?_;rintro e w3 ⟨rfl,⟨st',h3,hris⟩,fr3⟩;have HRIS:=hid hris;clear hris;have fr3':=FR2.out.trans fr3;clear c0 c1;obtain ⟨c0,c1⟩:=zK (zGM fr3');have FR3:=hid fr3';clear fr3' fr3 FR2;have H3:=hid h3;clear h3 H2;go_wp2_with fail;refine (CWI.out _).mono ?_;rintro e w4 ⟨rfl,bl4⟩;have fr4:=FR3.out.trans (Fr.zP bl4);have h4:=H3.out.bl bl4;clear c0 c1;obtain ⟨c0,c1⟩:=zK (zGM fr4);have FR4:=hid fr4;clear fr4 FR3 bl4;have H4:=hid h4;clear h4 H3;go_wp2_with fail;refine (CF.out _).mono ?_;rintro e w5 ⟨rfl,bl5⟩;have fr5:=FR4.out.trans (Fr.zP bl5);have h5:=H4.out.bl bl5;clear c0 c1;have FR5:=hid fr5;clear fr5 FR4 bl5;have H5:=hid h5;clear h5 H4;go_wp2_with fail
 go_loopw [8] (fun v wr=>∃ j k':Nat,v=.int .u64 ((q0+j:Nat):Int)∧q0+j≤q1+1∧zW Y (less S w1.heap.size) wr sb (n+8192) (cut f q0 j) k' (zBO M (q0*4096) ((q0+j)*4096)) st'∧k'+hcnt f q0 j=k∧Fr (less S w1.heap.size) (w1.alloc (zDa A B)) wr) (fun v _=>q1+1 - (intOf v).toNat)
 case atStart =>
  refine ⟨0,k,rfl,by omega,?_,rfl,FR5.out⟩;have e1:cut f q0 0=f:=by funext p;simp only [cut];rw [if_neg (by omega)]
  have e2:zBO M (q0*4096) ((q0+0)*4096)=M:=by funext x;simp only [zBO];rw [if_neg (by omega)]
  rw [e1,e2];exact H5.out
 case round =>
  obtain ⟨j,k',rfl,hj,hst,hk,hfr⟩:=hrel;clear H5 FR5;obtain ⟨c0,c1⟩:=zK (zGM hfr);have HST:=hid hst;clear hst;have HFR:=hid hfr;clear hfr;have HK:=hid hk;clear hk;go_wp2_with fail;refine (CL.out _).mono ?_;rintro e w6 ⟨rfl,bl6⟩;have fr6:=HFR.out.trans (Fr.zP bl6);have h6:=HST.out.bl bl6;clear c0 c1;obtain ⟨c0,c1⟩:=zK (zGM fr6);have FR6:=hid fr6;clear fr6;have H6:=hid h6;clear h6 bl6;by_cases hlt:q0+j≤q1
  ·have hltI:((q0+j:Nat):Int)≤(q1:Int):=by omega
   obtain ⟨x,hx⟩:∃ x,x=q0+j:=⟨_,rfl⟩;rw [← hx] at hltI ⊢;have hxb:(x:Int)≤67108864:=by omega
   have HX:=hid hx;clear hx;go_wp2_with fail;refine (CWP.out _ _ _ _ _ _ H6.out x (by have:=HX.out;omega) (by have:=HX.out;omega)).mono ?_;rintro e w7 ⟨rfl,⟨k7,h7,hk7⟩,fr7⟩;have H7:=hid h7;clear h7;have FR7:=hid fr7;clear fr7;have HK7:=hid hk7;clear hk7;clear c0 c1;go_wp2_with fail;have hx:=HX.out;refine ⟨⟨j+1,k7,by congr 1;omega,by omega,?_,?_,FR6.out.trans FR7.out⟩,?_⟩
   ·have h7:=H7.out;rw [hx,cut_step,wiped_step] at h7;exact h7
   ·have h8:=HK7.out;have h9:=HK.out;rw [hx] at h8;have e1:cut f q0 j (q0+j)=f (q0+j):=by simp only [cut];rw [if_neg (by omega)]
    rw [e1] at h8;simp only [hcnt];omega
   ·simp only [intOf];omega
  ·have hgt:(q1:Int)<((q0+j:Nat):Int):=by omega
   have hjj:j=q1+1 - q0:=by omega
   have HJ:=hid hjj;clear hlt hjj c0 c1;go_wp2_with fail
   go_end0
   have hjj:=HJ.out;refine ⟨rfl,⟨k',st',?_,by rw [← hjj];exact HK.out,HRIS.out.mono fun p hp=>by have:=HA.out;have:=HB.out;omega⟩,(Fr.zP BL1.out).trans FR6.out.unless⟩;have h6:=H6.out.among (T:=S) (fun _ _ e=>e.1);rw [hjj] at h6;rw [show q0+(q1+1 - q0)=q1+1 by omega] at h6;rw [HA.out,HB.out];exact h6
def off (T:Nat→Prop) (v:Value):Nat→Prop:=fun b=>T b∧v.ownBlock≠some b
def spX (pm sm:Value) (c l mo ba en:Int):Ctx:=⟨[pm,sm,.int .u64 c,.int .u64 l,.int .i64 mo,.int .u64 ba,.int .u64 en],103,by decide⟩
structure MS (T:Nat→Prop) (w:World) (sb n:Nat) (L:List Rg) (M st:Nat→Int) (mo ba en:Int):Prop where
 ex:∃ rg f k,zW ⟨rg,mo,ba,en⟩ (off T rg) w sb n f k M st∧Row w 0 rg L∧∀ g,rg.ownBlock=some g→T g
 rs:Rs L
 few:L.length≤256
 by_:∀ x,0≤M x∧M x≤255
 mo_:0≤mo∧mo≤4096
 heap:0≤ba∧ba≤274877906944∧0≤en∧en≤274877906944
section
variable {T:Nat→Prop} {w w':World} {sb n:Nat} {L:List Rg} {M st:Nat→Int} {mo ba en:Int}
theorem MS.bl (h:MS T w sb n L M st mo ba en) (k:Bl w w'):MS T w' sb n L M st mo ba en:=by
 obtain ⟨rg,f,k0,h1,h2,h3⟩:=h.ex;exact ⟨⟨rg,f,k0,h1.bl k,h2.bl k,h3⟩,h.rs,h.few,h.by_,h.mo_,h.heap⟩
theorem MS.so (h:MS T w sb n L M st mo ba en):So 0 274877906944 L:=h.rs.nm.so
theorem MS.own (h:MS T w sb n L M st mo ba en):T sb:=by
 obtain ⟨rg,f,k0,⟨pm,sm,c,l,h1⟩,h2,h3⟩:=h.ex;exact h1.own.1
theorem MS.lt (h:MS T w sb n L M st mo ba en):sb<w.heap.size:=by
 obtain ⟨rg,f,k0,⟨pm,sm,c,l,h1⟩,h2,h3⟩:=h.ex;exact h1.lt
theorem MS.mono (h:MS T w sb n L M st mo ba en) (hn:n≤m):MS T w sb m L M st mo ba en:=by
 obtain ⟨rg,f,k0,h1,h2,h3⟩:=h.ex;exact ⟨⟨rg,f,k0,h1.mono hn,h2,h3⟩,h.rs,h.few,h.by_,h.mo_,h.heap⟩
theorem MS.kept (h:MS T w sb n L M st mo ba en) (hf:Fr U w w') (hd:∀ b,T b→¬ U b):MS T w' sb n L M st mo ba en:=by
 obtain ⟨rg,f,k0,h1,h2,h3⟩:=h.ex;exact ⟨⟨rg,f,k0,h1.kept hf (fun b e=>hd b e.1),h2.kept (fun g hg=>hf.block g (h2.lt g hg).2 (hd g (h3 g hg))),h3⟩,h.rs,h.few,h.by_,h.mo_,h.heap⟩
theorem MS.among (h:MS T w sb n L M st mo ba en) (hs:∀ b,b<w.heap.size→T b→U b):MS U w sb n L M st mo ba en:=by
 obtain ⟨rg,f,k0,h1,h2,h3⟩:=h.ex;exact ⟨⟨rg,f,k0,h1.among fun b hb e=>⟨hs b hb e.1,e.2⟩,h2,fun g hg=>hs g (h2.lt g hg).2 (h3 g hg)⟩,h.rs,h.few,h.by_,h.mo_,h.heap⟩
theorem MS.list (h:MS T w sb n L M st mo ba en):∃ X,zCG X w sb L:=by
 obtain ⟨rg,f,k0,⟨pm,sm,c,l,h1⟩,h2,h3⟩:=h.ex;exact ⟨spX pm sm c l mo ba en,rg,h1.blk,h2⟩
theorem MS.cells (h:MS T w sb n L M st mo ba en):w.cell? ⟨sb,5,none⟩=some (.int .i64 mo)∧w.cell? ⟨sb,6,none⟩=some (.int .u64 ba)∧w.cell? ⟨sb,7,none⟩=some (.int .u64 en):=by
 obtain ⟨rg,f,k0,⟨pm,sm,c,l,h1⟩,h2,h3⟩:=h.ex
 have:=h1.blk
 refine ⟨?_,?_,?_⟩<;>simp [World.cell?,this]
theorem MS.cell0 (h:MS T w sb n L M st mo ba en):∃ v,w.cell? ⟨sb,0,none⟩=some v:=by
 obtain ⟨rg,f,k0,⟨pm,sm,c,l,h1⟩,h2,h3⟩:=h.ex
 have:=h1.blk
 exact ⟨rg,by simp [World.cell?,this]⟩
theorem MS.free (h:MS T w sb n L M st mo ba en) (i:Nat):w.frozen? ⟨sb,i,none⟩=false:=by
 obtain ⟨rg,f,k0,⟨pm,sm,c,l,h1⟩,h2,h3⟩:=h.ex;exact h1.free i
theorem zKE {T:Nat→Prop} {w:World} {rg:Value} {L:List Rg} (hr:Row w base rg L) (hT:∀ b,w.heap.size≤b→T b):∀ b,w.heap.size≤b→off T rg b:=fun b hb=>⟨hT b hb,fun e=>by have:=(hr.lt b e).2;omega⟩
variable {L':List Rg}
theorem SA.list {T:Nat→Prop} {w w':World} {sb n:Nat} {M st:Nat→Int} {rg v:Value} {mo ba en:Int} (h:SA ⟨rg,mo,ba,en⟩ (off T rg) w sb n f k M st pm sm c l) (hr:Row w' w.heap.size v L')
 (hb:w'.heap[sb]?=some (.cells #[v,pm,sm,.int .u64 c,.int .u64 l,.int .i64 mo,.int .u64 ba,.int .u64 en] 103 (0,0))) (hf:Fr (only sb) w w'):SA ⟨v,mo,ba,en⟩ (off T v) w' sb n f k M st pm sm c l:=by
 have h1:SA ⟨rg,mo,ba,en⟩ (off T v) w sb n f k M st pm sm c l:=h.among fun b hb hS=>⟨hS.1,fun e=>by have:=(hr.lt b e).1;omega⟩
 refine SA.cells (Y':=⟨v,mo,ba,en⟩) h1 (fun x hx hne=>hf.block x hx (fun e=>hne e)) hb h.lw h.top (h1.pages.kept fun B hB=>?_) (h1.stamps.kept fun B hB=>?_) h.apart
 ·obtain ⟨_,es,q,h2⟩:=h1.pages.isMap hB;rw [hf.at_ h2 (fun e=>by have:=h.blk;rw [← show B=sb from e,h2] at this;cases this),h2]
 ·obtain ⟨_,es,q,h2⟩:=h1.stamps.isMap hB;rw [hf.at_ h2 (fun e=>by have:=h.blk;rw [← show B=sb from e,h2] at this;cases this),h2]
variable {X:Ctx}
theorem MS.laid (h:MS T w sb n L M st mo ba en) (hX:zCG X w sb L) (hl:zAT X w.heap.size w' sb L') (hf:Fr (only sb) w w') (hrs:Rs L') (hfew:L'.length≤256) (hT:∀ b,w.heap.size≤b→T b):MS T w' sb n L' M st mo ba en:=by
 obtain ⟨rg,f,k0,⟨pm,sm,c,l,h1⟩,h2,h3⟩:=h.ex;obtain ⟨v0,b0,_⟩:=hX;obtain ⟨v,b1,r1⟩:=hl;rw [h1.blk] at b0;injection b0 with b0;injection b0 with b0 bt;have e0:[rg,pm,sm,.int .u64 c,.int .u64 l,.int .i64 mo,.int .u64 ba,.int .u64 en]=v0 :: X.rest:=by simpa using congrArg Array.toList b0
 injection e0 with _ e0;rw [← e0,← bt] at b1;refine ⟨⟨v,f,k0,⟨pm,sm,c,l,h1.list r1 b1 hf⟩,r1.zJX (b2:=0) (fun g _=>Nat.zero_le g),fun g hg=>hT g (r1.lt g hg).1⟩,hrs,hfew,h.by_,h.mo_,h.heap⟩
theorem MS.stored (h:MS T w sb n L M st mo ba en) {rg:Value} (hr:Row w 0 rg L) (hg:∀ g,rg.ownBlock=some g→T g) (hs:zW ⟨rg,mo,ba,en⟩ (off T rg) w' sb m f k M' st') (hf:Fr (off T rg) w w') (hb:∀ x,0≤M' x∧M' x≤255):MS T w' sb m L M' st' mo ba en:=
 ⟨⟨rg,f,k,hs,hr.kept (fun g hg=>hf.block g (hr.lt g hg).2 (fun e=>e.2 hg)),hg⟩,h.rs,h.few,hb,h.mo_,h.heap⟩
theorem Fr.off_of {T:Nat→Prop} {v:Value} {w w':World} (h:Fr (off T v) w w'):Fr T w w':=h.mono fun _ _ e=>e.1
end
def gap (T:Nat→Prop) (lo hi:Nat):Nat→Prop:=fun b=>T b∧¬ (lo≤b∧b<hi)
variable {L:List Rg}
theorem MS.gap (h:MS T w sb n L M st mo ba en) (k:Bl w w') (lo hi:Nat) (hlo:w.heap.size≤lo):MS (gap T lo hi) w' sb n L M st mo ba en:=
 (h.among (U:=YtlhpodholnfppaaGreatDoor.gap T lo hi) fun b hb e=>⟨e,fun e2=>by omega⟩).bl k
theorem MS.zBW {lo hi:Nat} (h:MS (YtlhpodholnfppaaGreatDoor.gap T lo hi) w sb n L M st mo ba en):MS T w sb n L M st mo ba en:=h.among fun b _ e=>e.1
theorem zCA (hT:∀ b,w.heap.size≤b→T b) (lo:Nat) (k:w.heap.size≤w'.heap.size):∀ b,w'.heap.size≤b→gap T lo w'.heap.size b:=fun b hb=>⟨hT b (by omega),fun e=>by omega⟩
theorem Fr.zBW {lo hi:Nat} (h:Fr (gap T lo hi) w w'):Fr T w w':=h.mono fun _ _ e=>e.1
theorem mnew_any (T:Nat→Prop) (m:Int) (w:World) (hT:T w.heap.size) (h0:0≤m) (h1:m≤4096):Calls prog 22 #[.int .i64 m] w fun e w'=>e=.returned (zB w.heap.size)∧MS T w' w.heap.size 0 [] (fun _=>0) (fun _=>0) m 0 0∧Bl w w'∧w'.heap.size=w.heap.size+1:=by
 have mx:∀ ts t W,(Builtin.max_ ts t #[.int .i64 m,.int .i64 0]).run prog W=.ok (.int .i64 m) W:=fun ts t W=>by
  rw [zEX];congr 2;split<;>omega
 unfold zB;go_enter func22,ntmps22;go_wp2;go_ret;refine ⟨rfl,⟨⟨.slice none 0 0,fun _=>none,0,⟨.map none,.map none,0,0,?_⟩,RowG.nil,fun g hg=>by cases hg⟩,Rs.nil,by simp,fun _=>by omega,⟨h0,h1⟩,by omega⟩,Bl.new _ _,by simp⟩;exact ⟨zzn w _,⟨hT,fun e=>by cases e⟩,by omega,fun _ _=>Int.le_refl _,.inl ⟨rfl,fun _=>rfl,rfl⟩,.inl ⟨rfl,fun _ _=>rfl⟩,fun B h=>(by cases h),fun p b h=>(by cases h),fun p q b h=>(by cases h),fun _ _ _ _=>rfl,fun p b h=>(by cases h)⟩
theorem misProt_yes (p:Int) (w:World) (h0:0≤p) (h1:p≤7):Calls prog 40 #[.int .i64 p] w fun x w'=>x=.returned (.bool true)∧w=w':=by
 go_enter func40,ntmps40;go_wp2;go_ret;exact ⟨rfl,rfl⟩
def upW (n:Int):Int:=IntKind.u64.wrap (n+4095)/4096*4096
theorem upW_in {n:Int} (h0:0≤n) (h1:n≤274877906944):upW n=(n+4095)/4096*4096:=by unfold upW;rw [zzu _ (by omega)]
theorem mup_any (n:Int) (w:World):Calls prog 41 #[.int .u64 n] w fun e w'=>e=.returned (.int .u64 (upW n))∧w=w':=by
 go_enter func41,ntmps41;go_wp2;go_ret;have hw:=zJb (n+4095);refine ⟨?_,rfl⟩;show Ending.returned (.int .u64 (IntKind.u64.wrap (IntKind.u64.wrap (n+4095) - (IntKind.u64.wrap (n+4095)).tmod 4096)))=_;unfold upW
 congr 2
 rw [Int.tmod_eq_emod_of_nonneg hw.1,zzu _ (by omega)];omega
theorem tot_joinOne (L:List Rg) (r:Rg):tot (zAO L r)=tot L+(r.e - r.s):=by
 rcases last_cases L with rfl|⟨A,q,rfl⟩
 ·rw [zBx];simp [tot]
 ·by_cases h:q.e=r.s∧q.p=r.p
  ·rw [zBw A q r h.1 h.2,zBX,zBX];simp only [tot];omega
  ·rw [zBc A q r h,zBX];simp only [tot];omega
theorem zHF (L M:List Rg):tot (join L M)=tot L+tot M:=by
 induction M generalizing L with
 | nil=>simp [join,tot]
 | cons r M ih =>
  have e:join L (r :: M)=join (zAO L r) M:=rfl;rw [e,ih,tot_joinOne];simp only [tot];omega
theorem zAp (r:Rg) (L:List Rg) (a b:Int):tot (within (r :: L) a b)=max 0 (min r.e b - max r.s a)+tot (within L a b):=by
 unfold within;rw [List.filterMap_cons];by_cases h:max r.s a<min r.e b
 ·have e:clip a b r=some ⟨max r.s a,min r.e b,r.p⟩:=by unfold clip;rw [if_pos h]
  rw [e];simp only [tot];omega
 ·have e:clip a b r=none:=by unfold clip;rw [if_neg h]
  rw [e];show tot (List.filterMap (clip a b) L)=_;omega
theorem zBg (L:List Rg) (a b c:Int) (h1:a≤b) (h2:b≤c):tot (within L a b)+tot (within L b c)=tot (within L a c):=by
 induction L with
 | nil=>simp [within,tot]
 | cons r L ih =>
  rw [zAp,zAp,zAp];omega
theorem zDb (h:So 0 274877906944 L):tot (within L 0 274877906944)=tot L:=by
 induction L with
 | nil=>simp [within,tot]
 | cons r L ih =>
  rw [zAp,ih (h.tail.mono (by have:=h.2 r (by simp);omega) (Int.le_refl _))]
  have:=h.2 r (by simp)
  simp only [tot];omega
theorem tot_layL {M:List Rg} {s:Int} (h:So 0 274877906944 L) (h0:0≤s) (h1:s≤e) (h2:e≤274877906944):tot (layL L s e M)=tot L - tot (within L s e)+tot M:=by
 unfold layL;rw [zHF,zHF,zHF];have a1:=zBg L 0 s e h0 h1;have a2:=zBg L 0 e 274877906944 (by omega) h2;have a3:=zDb h;have a4:tot ([]:List Rg)=0:=rfl;omega
theorem zDy (L:List Rg) (a b:Int):0≤tot (within L a b):=by
 induction L with
 | nil=>simp [within,tot]
 | cons r L ih=>rw [zAp];omega
def zGU (T:Nat→Prop) (w:World) (sb n:Nat) (L:List Rg) (M st:Nat→Int) (mo ba en:Int) (a b:Nat) (w':World):Prop:=
 ∃ st',MS T w' sb (n+8192) L (zBO M a b) st' mo ba en∧Rise st st' (fun p=>a≤p*4096∧p*4096<b)∧Fr T w w'
theorem wiped_bd (h:∀ x,0≤M x∧M x≤255) (a b:Nat):∀ x,0≤zBO M a b x∧zBO M a b x≤255:=fun x=>by
 simp only [zBO]
 split
 ·omega
 ·exact h x
theorem mclear_any (h:MS T w sb n L M st mo ba en) (a b:Nat) (ha:a%4096=0) (hb:b%4096=0) (hab:a<b) (hbt:b≤274877906944) (hnar:b - a≤16777216) (hn:n<80000000) (hT:∀ b,w.heap.size≤b→T b):
  Calls prog 67 #[.pointer (some ⟨sb,1,none⟩),.int .u64 (a:Int),.int .u64 (b:Int)] w fun e w'=>e=.returned (.tuple #[])∧zGU T w sb n L M st mo ba en a b w':=by
 obtain ⟨rg,f,k0,h1,h2,h3⟩:=h.ex;have cc:=clear_narrow h1 (a/4096) (b/4096 - 1) (by omega) (by omega) (by omega) hn (zKE h2 hT);rw [show a/4096*4096=a by omega,show (b/4096 - 1+1)*4096=b by omega] at cc;refine cc.mono ?_;rintro e w' ⟨rfl,⟨k',st',h4,_,hr⟩,hf⟩;exact ⟨rfl,st',h.stored h2 h3 h4 hf (wiped_bd h.by_ a b),hr.mono fun p hp=>by omega,hf.off_of⟩
theorem keepM {p:Addr} {v:Value} (h:w8.cell? p=some v∧Bl w w8) (k:Bl w8 w9):w9.cell? p=some v∧Bl w w9:=⟨k.cell' h.1,h.2.trans k⟩
def MLayPost (T:Nat→Prop) (w:World) (sb n:Nat) (L:List Rg) (M st:Nat→Int) (mo ba en:Int) (a b:Nat) (e:Ending) (w':World):Prop:=
 e=.returned (.int .i64 0)∧zGU T w sb n L M st mo ba en a b w'
theorem mlay_ok (h:MS T w sb n L M st mo ba en) (a b:Nat) (p:Int) (hs:Span (a:Int) (b:Int)) (hp0:0≤p) (hp1:p≤7)
 (hc:(layL L a b [⟨a,b,p⟩]).length≤256) (ht:tot (layL L a b [⟨a,b,p⟩])≤mo*4096) (hn:n<80000000) (hT:∀ b,w.heap.size≤b→T b):
  Calls prog 43 #[zB sb,.int .u64 (a:Int),.int .u64 (b:Int),.int .i64 p] w (MLayPost T w sb n (layL L a b [⟨a,b,p⟩]) M st mo ba en a b):=by
 have hrs:Rs (layL L a b [⟨a,b,p⟩]):=h.rs.lay (by omega) hs;obtain ⟨X,hX⟩:=h.list;have ccp:=zFK hX (by have:=h.few;omega);have htl:=tot_layL (M:=[⟨a,b,p⟩]) h.so (show (0:Int)≤a by omega) (Int.le_of_lt hs.2.2.1) hs.2.2.2;have hwl:=So.tot_le (zFV h.so (a:=0) (b:=(a:Int))) (by omega);have hnar:b - a≤16777216:=by
  have h1:=h.mo_;have h2:=zBg L 0 a b (by omega) (Int.le_of_lt hs.2.2.1);have h3:=zBg L 0 b 274877906944 (by omega) hs.2.2.2;have h4:=zDb h.so;have h5:=zDy L b 274877906944;have h6:=zDy L 0 a;simp only [tot] at htl;omega
 have hpg:tot (layL L a b [⟨a,b,p⟩])/4096≤mo:=by omega
 have hs1:=hs.1;have hs2:=hs.2.1;have hs3:=hs.2.2.1;have hs4:=hs.2.2.2;have HSP:=hid hs;clear hs;have HX:=hid hX;clear hX;have HRS:=hid hrs;clear hrs;have HC:=hid hc;clear hc;have H:=hid h;clear h;have HT:=hid hT;clear hT;have HF:=hid H.out.few;have CCP:=hid ccp;clear ccp htl hwl ht;obtain ⟨L',hL'⟩:∃ L',L'=layL L a b [⟨a,b,p⟩]:=⟨_,rfl⟩;rw [← hL'] at hpg HRS HC ⊢;have HL':=hid hL';clear hL';have HHS:=hid (⟨hs1,hs2,hs3,hs4⟩:(a:Int)%4096=0∧(b:Int)%4096=0∧(a:Int)<b∧(b:Int)≤274877906944);clear hs1 hs2 hs3 hs4;unfold zB at *;go_enter func43,ntmps43;go_wp2_with fail;refine CCP.out.mono ?_;rintro e w1 ⟨nb,rfl,hnb,l1,k1⟩;unfold zB;clear CCP;have L1:=hid l1;clear l1;have K1:=hid k1;clear k1;have HNB:=hid hnb;clear hnb;go_wp2_with fail;have cm:=map_ok L1.out.at0 (a:Int) (b:Int) p (by omega) HSP.out hp0 hp1 HF.out (by rw [← HL'.out];exact HC.out);unfold zB at cm;rw [← HL'.out] at cm;refine cm.mono ?_;rintro e w2 ⟨rfl,l2,f2⟩;have k2:Bl w w2:=Fr.zJA K1.out f2 HNB.out;have L2:=hid l2;clear l2;have K2:=hid k2;clear k2 f2 cm;obtain ⟨m0,m1,m2⟩:=(H.out.bl K2.out).cells;have cp:=fun W (hW:Bl w2 W)=>zHw (L2.out.bl hW).at0 HRS.out.nm.so (by have:=HC.out;omega)
 have CP:=hid cp;clear cp m1 m2;have hS:w2.cell? ⟨sb,5,none⟩=some (.int .i64 mo)∧Bl w2 w2:=⟨m0,Bl.refl _⟩;have HS:=hid hS;clear hS m0;unfold zB at CP;generalize tot L'/4096=q at *;go_wp2_with fail
 go_region_held3 (fun w'=>w'.cell? ⟨sb,5,none⟩=some (.int .i64 mo)∧Bl w2 w') (first|assumption|exact HS.out|exact keepM HS.out ((Bl.refl w2).drewN 1)) ((go_at_call 66;refine (CP.out _ (by first|exact HS.out.2|exact And.right (a:=World.cell? _ ⟨sb,5,none⟩=some (.int .i64 mo)) (by assumption))).mono ?_;rintro e w9 ⟨rfl,k9⟩;have hkk:=keepM (by first|assumption|exact HS.out) k9))
 all_goals (
  have hL9:=L2.out.bl hkk.2;have k9':=K2.out.trans hkk.2;obtain ⟨v,hvb,hvr⟩:=hL9;obtain ⟨A,cap,hv⟩:=hvr.shape;subst hv;have d0:w9.cell? ⟨nb,0,none⟩=some (.slice A L'.length cap):=by rw [zzc w9 nb 0 _ _ (0,0) hvb];simp
  have d1:=(H.out.bl k9').free 0;obtain ⟨v0,d2⟩:=(H.out.bl k9').cell0;have r9:Row w9 w.heap.size (.slice A L'.length cap) L':=hvr.zJX (fun g hg=>Nat.le_trans K1.out.size (hvr.lt g hg).1);have h10:=H.out.laid HX.out ((HX.out.bl k9').set r9) ((Fr.zP k9').trans (Fr.set (show only sb sb from rfl) _)) HRS.out HC.out HT.out;have f10:Fr T w (w9.setCell ⟨sb,0,none⟩ (.slice A L'.length cap)):=(Fr.zP k9').trans (Fr.set H.out.own _);have H10:=hid h10;have F10:=hid f10;have D0:=hid d0;clear h10 f10 hvb hvr r9;have hN:=hn;clear hkk HS;go_wp2_with fail;refine (mclear_any H10.out a b (by have:=HHS.out;omega) (by have:=HHS.out;omega) (by have:=HHS.out;omega) (by have:=HHS.out;omega) hnar hn (fun b hb=>HT.out b (Nat.le_trans F10.out.size hb))).mono ?_;rintro e w11 ⟨rfl,st',h11,hr11,f11⟩;have H11:=hid h11;clear h11;have R11:=hid hr11;clear hr11;have F11:=hid f11;clear f11;clear d0 d1 d2 k9';go_wp2_with fail;go_ret;exact ⟨rfl,st',H11.out,R11.out,F10.out.trans F11.out⟩)
theorem mlay_many (h:MS T w sb n L M st mo ba en) (a b:Nat) (p:Int) (hs:Span (a:Int) (b:Int)) (hp0:0≤p) (hp1:p≤7)
 (hc:256<(layL L a b [⟨a,b,p⟩]).length):
  Calls prog 43 #[zB sb,.int .u64 (a:Int),.int .u64 (b:Int),.int .i64 p] w (zGy w 12):=by
 obtain ⟨X,hX⟩:=h.list;have ccp:=zFK hX (by have:=h.few;omega);have HF:=hid h.few;have CCP:=hid ccp;clear ccp hX h;have HSP:=hid hs;clear hs;have HC:=hid hc;clear hc;unfold zB at *;go_enter func43,ntmps43;go_wp2_with fail;refine CCP.out.mono ?_;rintro e w1 ⟨nb,rfl,hnb,l1,k1⟩;unfold zB;have L1:=hid l1;clear l1;have K1:=hid k1;clear k1 hnb CCP;go_wp2_with fail;have cm:=map_many L1.out.at0 (a:Int) (b:Int) p (by omega) HSP.out hp0 hp1 HF.out HC.out;unfold zB at cm;refine cm.mono ?_;rintro e w2 ⟨rfl,k2⟩;have K2:=hid (K1.out.trans k2);clear k2 cm;go_wp2_with fail;go_ret;exact ⟨rfl,K2.out⟩
theorem mlay_full (h:MS T w sb n L M st mo ba en) (a b:Nat) (p:Int) (hs:Span (a:Int) (b:Int)) (hp0:0≤p) (hp1:p≤7)
 (hc:(layL L a b [⟨a,b,p⟩]).length≤256) (ht:mo*4096<tot (layL L a b [⟨a,b,p⟩])):
  Calls prog 43 #[zB sb,.int .u64 (a:Int),.int .u64 (b:Int),.int .i64 p] w (zGy w 12):=by
 have hrs:Rs (layL L a b [⟨a,b,p⟩]):=h.rs.lay (by omega) hs;obtain ⟨X,hX⟩:=h.list;have ccp:=zFK hX (by have:=h.few;omega);have hpg:mo<tot (layL L a b [⟨a,b,p⟩])/4096:=by have:=hrs.al.tot;omega
 have HSP:=hid hs;clear hs;have HRS:=hid hrs;clear hrs;have HC:=hid hc;clear hc;have HF:=hid h.few;have H:=hid h;clear h;have CCP:=hid ccp;clear ccp ht hX;obtain ⟨L',hL'⟩:∃ L',L'=layL L a b [⟨a,b,p⟩]:=⟨_,rfl⟩;rw [← hL'] at hpg HRS HC;have HL':=hid hL';clear hL';unfold zB at *;go_enter func43,ntmps43;go_wp2_with fail;refine CCP.out.mono ?_;rintro e w1 ⟨nb,rfl,hnb,l1,k1⟩;unfold zB;clear CCP;have L1:=hid l1;clear l1;have K1:=hid k1;clear k1;have HNB:=hid hnb;clear hnb;go_wp2_with fail;have cm:=map_ok L1.out.at0 (a:Int) (b:Int) p (by omega) HSP.out hp0 hp1 HF.out (by rw [← HL'.out];exact HC.out);unfold zB at cm;rw [← HL'.out] at cm;refine cm.mono ?_;rintro e w2 ⟨rfl,l2,f2⟩;have k2:Bl w w2:=Fr.zJA K1.out f2 HNB.out;have L2:=hid l2;clear l2;have K2:=hid k2;clear k2 f2 cm;obtain ⟨m0,m1,m2⟩:=(H.out.bl K2.out).cells;have cp:=fun W (hW:Bl w2 W)=>zHw (L2.out.bl hW).at0 HRS.out.nm.so (by have:=HC.out;omega)
 have CP:=hid cp;clear cp m1 m2;have hS:w2.cell? ⟨sb,5,none⟩=some (.int .i64 mo)∧Bl w2 w2:=⟨m0,Bl.refl _⟩;have HS:=hid hS;clear hS m0;unfold zB at CP;generalize tot L'/4096=q at *;go_wp2_with fail
 go_region_held3 (fun w'=>w'.cell? ⟨sb,5,none⟩=some (.int .i64 mo)∧Bl w2 w') (first|assumption|exact HS.out|exact keepM HS.out ((Bl.refl w2).drewN 1)) ((go_at_call 66;refine (CP.out _ (by first|exact HS.out.2|exact And.right (a:=World.cell? _ ⟨sb,5,none⟩=some (.int .i64 mo)) (by assumption))).mono ?_;rintro e w9 ⟨rfl,k9⟩;have hkk:=keepM (by first|assumption|exact HS.out) k9))
 all_goals (
  have k9':=K2.out.trans hkk.2;have K9:=hid k9';clear k9' hkk HS;go_wp2_with fail;go_ret;exact ⟨rfl,K9.out⟩)
theorem mlay_no (h:MS T w sb n L M st mo ba en) (a b p:Int) (h0:0≤a) (h1:a≤18446744073709551615) (h2:0≤b) (h3:b≤18446744073709551615) (hs:¬ (Span a b∧0≤p∧p≤7)):
  Calls prog 43 #[zB sb,.int .u64 a,.int .u64 b,.int .i64 p] w (zGy w 22):=by
 obtain ⟨X,hX⟩:=h.list;have ccp:=zFK hX (by have:=h.few;omega);have CCP:=hid ccp;clear ccp hX h;have cm:=fun W nb=>map_no (w:=W) nb a b p h0 h1 h2 h3 hs
 have CM:=hid cm;clear cm hs;unfold zB at *;go_enter func43,ntmps43;go_wp2_with fail;refine CCP.out.mono ?_;rintro e w1 ⟨nb,rfl,hnb,l1,k1⟩;unfold zB;have K1:=hid k1;clear k1 hnb CCP l1;go_wp2_with fail;refine (CM.out _ _).mono ?_;rintro e w2 ⟨rfl,k2⟩;have K2:=hid (K1.out.trans k2);clear k2 CM;go_wp2_with fail;go_ret;exact ⟨rfl,K2.out⟩
theorem width_yes (n:Int) (w:World) (h:n=1∨n=2∨n=4∨n=8):Calls prog 173 #[.int .i64 n] w fun x w'=>x=.returned (.bool true)∧w=w':=by
 rcases h with rfl|rfl|rfl|rfl;all_goals go_enter func173,ntmps173
 all_goals go_wp2
 all_goals go_ret
 all_goals exact ⟨rfl,rfl⟩
theorem zKa (h:So 0 274877906944 L) {x:Int} (hx:274877906944≤x):¬ Can L p x:=fun ⟨q,hq,_⟩=>by have:=h.range hq;omega
theorem lack_any (h:MS T w sb n0 L M st mo ba en) (a:Int) (n:Nat) (p:Int) (h0:0≤a) (h1:a≤18446744073709551615) (hn:n≤4194304):
  Calls prog 174 #[zB sb,.int .u64 a,.int .i64 (n:Int),.int .i64 p] w (zBF w L a (a+n) p):=by
 by_cases hc:0<n∧274877906944≤a
 ·have hp:zBF w L a (a+n) p (.returned (.tuple #[.int .u64 a,.bool true])) w:=⟨a,true,rfl,.inl ⟨rfl,Int.le_refl _,by omega,zKa h.so hc.2,fun y h1 h2=>by omega⟩,Bl.refl _⟩;have HP:=hid hp;clear hp h;obtain ⟨c1,c2⟩:=hc;have c3:(0:Int)<(n:Int):=by omega
  unfold zB;go_enter func174,ntmps174;go_wp2_with fail;go_ret2;exact HP.out
 ·obtain ⟨X,hX⟩:=h.list;have cf:=first_any hX h.so a (a+n) p (by have:=h.few;omega);have CF:=hid cf;clear cf hX h;have hw:IntKind.u64.wrap (a+n)=a+n:=zzu _ (by omega);unfold zB at *;by_cases c1:0<n
  ·have c2:a<274877906944:=by omega
   have c3:(0:Int)<(n:Int):=by omega
   clear hc;go_enter func174,ntmps174;go_wp2_with fail;refine CF.out.mono ?_;rintro e w' ⟨x,ok,rfl,hh,k⟩;have HH:=hid hh;clear hh;have K:=hid k;clear k;go_wp2_with fail;go_ret2;exact ⟨x,ok,rfl,HH.out,K.out⟩
  ·obtain rfl:n=0:=by omega
   clear hc c1 hw;have hw:IntKind.u64.wrap a=a:=zzu _ (by omega);simp only [Int.natCast_zero,Int.ofNat_eq_natCast,Int.add_zero,Int.cast_ofNat_Int] at *;go_enter func174,ntmps174;go_wp2_with fail;refine CF.out.mono ?_;rintro e w' ⟨x,ok,rfl,hh,k⟩;have HH:=hid hh;clear hh;have K:=hid k;clear k;go_wp2_with fail;go_ret2;exact ⟨x,ok,rfl,HH.out,K.out⟩
def zt (k x:Int):Value:=.agg #[.int .i64 k,.int .u64 x]
def zDJ (w:World) (L:List Rg) (kind a:Int) (n:Nat) (p:Int) (e:Ending) (w':World):Prop:=∃ k x,e=.returned (zt k x) ∧
 ((k=kind∧a≤x∧x<a+n∧¬ Can L p x∧∀ y,a≤y→y<x→Can L p y)∨(k=0∧x=0∧∀ y,a≤y→y<a+n→Can L p y))∧Bl w w'
theorem new2 (w w1:World) (x y:Value) (t:TypeId) (k:Bl (w.alloc (.cells #[x,y] t)) w1):w1.heap[w.heap.size]?=some (.cells #[x,y] t (0,0)):=k.at_ (zzn w _)
theorem set2 {a b:Value} (x y:Value) (h:w.heap[g]?=some (.cells #[a,b] t (0,0))):((w.setCell ⟨g,0,none⟩ x).setCell ⟨g,1,none⟩ y).heap[g]?=some (.cells #[x,y] t (0,0)):=by
 have h1:=zzs w g 0 _ t x h;have h2:=zzs (w.setCell ⟨g,0,none⟩ x) g 1 _ t y h1;rw [h2];rfl
theorem zGE (h:MS T w sb n0 L M st mo ba en) (kind a:Int) (n:Nat) (p:Int) (h0:0≤a) (h1:a≤18446744073709551615) (hn:n=1∨n=2∨n=4∨n=8):
  Calls prog 153 #[zB sb,.int .i64 kind,.int .u64 a,.int .i64 (n:Int),.int .i64 p] w (zDJ w L kind a n p):=by
 have cw:=fun W=>width_yes (n:Int) W (by omega)
 have cl:=lack_any (h.bl (Bl.new w (.cells #[.int .i64 0,.int .u64 0] 31))) a n p h0 h1 (by omega);have CW:=hid cw;clear cw;have CL:=hid cl;clear cl hn h;unfold zB at *;go_enter func153,ntmps153;go_wp2_with fail;refine (CW.out _).mono ?_;rintro e w' ⟨rfl,rfl⟩;go_wp2_with fail;refine CL.out.mono ?_;rintro e w1 ⟨x,ok,rfl,hh,k⟩;have hb:=new2 w w1 _ _ _ k;obtain ⟨d0,d1⟩:=zK hb;have k1:=(Bl.new w (.cells #[.int .i64 0,.int .u64 0] 31)).trans k;have f0:∀ i,w1.frozen? ⟨w.heap.size,i,none⟩=false:=fun i=>by simp [World.frozen?,hb]
 have f00:=f0 0;have f01:=f0 1;have HB:=hid hb;clear hb;have K1:=hid k1;clear k1 k f0;rcases hh with ⟨rfl,hh⟩|⟨rfl,hx,hh⟩
 ·have HH:=hid hh;clear hh;go_wp2_with fail;refine zzb (zHD rfl _ _ w.heap.size rfl (set2 _ _ HB.out) rfl) rfl ?_;exact ⟨kind,x,rfl,.inl ⟨rfl,HH.out⟩,(K1.out.set (zzr _) _).set (zzr _) _⟩
 ·have HH:=hid hh;clear hh;have HX:=hid hx;clear hx;go_wp2_with fail;refine zzb (zHD rfl _ _ w.heap.size rfl (set2 _ _ HB.out) rfl) rfl ?_;exact ⟨0,0,rfl,.inr ⟨rfl,rfl,HH.out⟩,(K1.out.set (zzr _) _).set (zzr _) _⟩
theorem zHt (h:MS T w sb n0 L M st mo ba en) (a:Int) (n:Nat) (h0:0≤a) (h1:a≤18446744073709551615) (hn:n=1∨n=2∨n=4∨n=8):
  Calls prog 155 #[zB sb,.int .u64 a,.int .i64 (n:Int)] w (zDJ w L 2 a n 2):=by
 have cf:=zGE (h.bl (Bl.new w (.cells #[.int .i64 0,.int .u64 0] 31))) 2 a n 2 h0 h1 hn;have CF:=hid cf;clear cf h;unfold zB at *;go_enter func155,ntmps155;go_wp2_with fail;refine CF.out.mono ?_;rintro e w1 ⟨k,x,rfl,hh,kk⟩;have hb:=new2 w w1 _ _ _ kk;obtain ⟨d0,d1⟩:=zK hb;have k1:=(Bl.new w (.cells #[.int .i64 0,.int .u64 0] 31)).trans kk;have f0:∀ i,w1.frozen? ⟨w.heap.size,i,none⟩=false:=fun i=>by simp [World.frozen?,hb]
 have f00:=f0 0;have f01:=f0 1;have HB:=hid hb;clear hb;have K1:=hid k1;clear k1 kk f0;have HH:=hid hh;clear hh;unfold zt;go_wp2_with fail;refine zzb (zHD rfl _ _ w.heap.size rfl (set2 _ _ HB.out) rfl) rfl ?_;exact ⟨k,x,rfl,HH.out,(K1.out.set (zzr _) _).set (zzr _) _⟩
theorem zJs (h:w.heap[g]?=some (.cells (zJ xs).toArray 5 (0,0))):Rd w (some ⟨g,0,none⟩) xs:=by
 intro h0;refine ⟨_,rfl,fun i hi=>?_⟩;have e1:(⟨g,0,none⟩:Addr).add i=⟨g,i,none⟩:=by unfold Addr.add;split<;>simp_all
 rw [e1,zzc w g i _ 5 (0,0) h];simp only [List.getElem?_toArray];rw [zDW _ _ hi]
theorem zCh (h:∀ x,0≤M x∧M x≤255) (a m:Nat):∀ k,0≤(zf M a m).getD k 0∧(zf M a m).getD k 0≤255:=fun k=>by
 rw [zzd];by_cases hk:k<m
 ·rw [zCD _ _ _ _ hk];exact h _
 ·rw [List.getElem?_eq_none (by rw [zT];omega)];simp
def zb (M:Nat→Int) (a n:Nat):Int:=getS (zf M a n) n
theorem zAX (h:MS T w sb n0 L M st mo ba en) (a n:Nat) (ha:a<2^64) (h1:1≤n) (h8:n≤8):
  Calls prog 154 #[zB sb,.int .u64 (a:Int),.int .i64 (n:Int)] w fun e w'=>e=.returned (.int .u64 (zb M a n))∧Bl w w':=by
 obtain ⟨rg,f,k0,h2,_,_⟩:=h.ex;have cr:=zIu h2 a n ha h1 (by omega);have hbd:=zCh h.by_ a n;have hlen:=zT M a n;have CR:=hid cr;clear cr h2 h;have HBD:=hid hbd;clear hbd;have HLEN:=hid hlen;clear hlen;unfold zB zb;go_enter func154,ntmps154;go_wp2_with fail;refine CR.out.mono ?_;rintro e w1 ⟨rfl,hb,k1⟩;have RD:=hid (zJs hb);have K1:=hid k1;clear k1 hb CR;go_wp2_with fail;refine (get_in _ n n _ n w1 RD.out HLEN.out (by omega) h1 h8 HBD.out).mono ?_;rintro e w2 ⟨rfl,rfl⟩;go_wp2_with fail;go_ret;exact ⟨rfl,K1.out⟩
theorem zBP {P:Program} {fn:Func} {p u:Tmp} {ty:TypeId} (h:fn.results=#[.tmp u,.cell p ty]) (tmps:Array Value) (w:World) (g:Nat) (t:TypeId) (cs:Array Value) (fr:Nat × Nat) (d:TypeDesc)
  (hp:tmps.getD p undef=.pointer (some ⟨g,0,none⟩)) (hg:w.heap[g]?=some (.cells cs t fr))
  (hu:P.underlying ty=some d) (hd:(match d with | .struct _ | .array _ _=>true|_=>false)=true) (hi:(P.info? ty).map (·.size)=some cs.size) :
  (results fn tmps).run P w=.ok (.tuple #[tmps.getD u undef,.agg cs]) w:=by
 have hp':tmps[p]?.getD undef=.pointer (some ⟨g,0,none⟩):=by simpa using hp
 simp [results,h,hp',asAddr,run_loadVar_row w g t ty cs fr d hg hu hd hi,Result.andThen]
def zEO (w:World) (L:List Rg) (M:Nat→Int) (a n:Nat) (e:Ending) (w':World):Prop:=∃ y k x,e=.returned (.tuple #[.int .u64 y,zt k x]) ∧
 ((k=1∧y=0∧(a:Int)≤x∧x<a+n∧¬ Can L 1 x∧∀ z,(a:Int)≤z→z<x→Can L 1 z)∨(k=0∧x=0∧y=zb M a n∧∀ z,(a:Int)≤z→z<a+n→Can L 1 z))∧Bl w w'
theorem zHS (h:MS T w sb n0 L M st mo ba en) (a n:Nat) (ha:a<2^64) (hn:n=1∨n=2∨n=4∨n=8):
  Calls prog 127 #[zB sb,.int .u64 (a:Int),.int .i64 (n:Int)] w (zEO w L M a n):=by
 have cf:=zGE (h.bl (Bl.new w (.cells #[.int .i64 0,.int .u64 0] 31))) 1 a n 1 (by omega) (by omega) hn;have cn:=fun W (hW:Bl w W)=>zAX (h.bl hW) a n ha (by omega) (by omega)
 have CF:=hid cf;clear cf h;have CN:=hid cn;clear cn;unfold zB at *;go_enter func127,ntmps127;go_wp2_with fail;refine CF.out.mono ?_;rintro e w1 ⟨k,x,rfl,hh,kk⟩;have hb:=new2 w w1 _ _ _ kk;have k1:=(Bl.new w (.cells #[.int .i64 0,.int .u64 0] 31)).trans kk;clear CF kk;have HB:=hid hb;clear hb;have K1:=hid k1;clear k1;unfold zt;rcases hh with ⟨hk,hh⟩|⟨hk,hx,hh⟩
 ·subst hk;have HH:=hid hh;clear hh;go_wp2_with fail;have hb2:=(Bl.new w1 (.cells #[.int .i64 1,.int .u64 x] 31)).at_ HB.out;obtain ⟨d0,d1⟩:=zK hb2;obtain ⟨d2,d3⟩:=zK (zzn w1 (.cells #[.int .i64 1,.int .u64 x] 31));have f0:∀ i,(w1.alloc (.cells #[.int .i64 1,.int .u64 x] 31)).frozen? ⟨w.heap.size,i,none⟩=false:=fun i=>by simp [World.frozen?,hb2]
  have f00:=f0 0;have f01:=f0 1;have HB2:=hid hb2;clear hb2;have K2:=hid (K1.out.alloc (.cells #[.int .i64 1,.int .u64 x] 31));clear HB K1 f0 CN;generalize w1.alloc (.cells #[.int .i64 1,.int .u64 x] 31)=W at *;go_region
  all_goals (
   (try go_wp2_with fail)
   refine zzb (zBP rfl _ _ w.heap.size 31 _ (0,0) _ rfl (set2 _ _ HB2.out) underlying31 rfl (by kernel_rfl)) rfl ?_;exact ⟨0,1,x,rfl,.inl ⟨rfl,rfl,HH.out⟩,(K2.out.drew.set (zzr _) _).set (zzr _) _⟩)
 ·subst hk hx;have HH:=hid hh;clear hh;go_wp2_with fail;refine (CN.out _ (K1.out.alloc _)).mono ?_;rintro e w2 ⟨rfl,k2⟩;have hb2:=k2.at_ ((Bl.new w1 (.cells #[.int .i64 0,.int .u64 0] 31)).at_ HB.out);obtain ⟨d0,d1⟩:=zK hb2;have f0:∀ i,w2.frozen? ⟨w.heap.size,i,none⟩=false:=fun i=>by simp [World.frozen?,hb2]
  have f00:=f0 0;have f01:=f0 1;have HB2:=hid hb2;clear hb2;have K2:=hid ((K1.out.alloc (.cells #[.int .i64 0,.int .u64 0] 31)).trans k2);clear HB K1 f0 CN k2;go_wp2_with fail;refine zzb (zBP rfl _ _ w.heap.size 31 _ (0,0) _ rfl (set2 _ _ HB2.out) underlying31 rfl (by kernel_rfl)) rfl ?_;exact ⟨_,0,0,rfl,.inr ⟨rfl,rfl,rfl,HH.out⟩,(K2.out.set (zzr _) _).set (zzr _) _⟩
def zDX (T:Nat → Prop) (w:World) (sb n0:Nat) (L:List Rg) (M st:Nat → Int) (mo ba en:Int) (a n:Nat) (x:Int) (e:Ending) (w':World):Prop:=∃ k y,e = .returned (zt k y) ∧
  ((k = 2∧(a:Int) ≤ y∧y < a + n∧¬ Can L 2 y∧(∀ z,(a:Int) ≤ z → z < y → Can L 2 z)∧Bl w w') ∨
   (k = 0∧y = 0∧(∀ z,(a:Int) ≤ z → z < a + n → Can L 2 z)∧∃ st',MS T w' sb (n0 + 9) L (lay M a (putB x n)) st' mo ba en∧Rise st st' (fun p=>∃ x,a ≤ x∧x < a + n∧p = x / 4096)∧Fr T w w'))
theorem lay_bd (h:∀ x,0≤M x∧M x≤255) {cs:List Int} (hc:∀ k,0≤cs.getD k 0∧cs.getD k 0≤255) (a:Nat):∀ x,0≤lay M a cs x∧lay M a cs x≤255:=fun x=>by
 simp only [lay]
 split
 ·exact hc _
 ·exact h x
theorem zDG (h:So 0 274877906944 L) {a:Nat} (hc:∀ z,(a:Int)≤z→z<a+n→Can L p z) (hn:0<n):a+n≤274877906944:=by
 rcases Nat.lt_or_ge 274877906944 (a+n) with h1|h1
 ·exact absurd (hc (max a 274877906944) (by omega) (by omega)) (zKa h (by omega))
 ·exact h1
theorem zGq (h:MS T w sb n0 L M st mo ba en) (a:Nat) (A:Option Addr) (len cap:Nat) (xs:List Int) (hr:Rd w A xs) (hl:xs.length=len) (hlc:len≤cap) (hb:∀ k,0≤xs.getD k 0∧xs.getD k 0≤255)
 (hA:0<len→∀ ad,A=some ad→¬ T ad.block) (ha:a+len≤274877906944) (hlen:len≤4194304) (hn:n0<90000000) (hT:∀ b,w.heap.size≤b→T b):
  Calls prog 48 #[.pointer (some ⟨sb,1,none⟩),.int .u64 (a:Int),.slice A len cap] w fun e w'=>e=.returned (.tuple #[])∧∃ st',MS T w' sb (n0+3*zCT a len) L (lay M a xs) st' mo ba en∧Rise st st' (fun p=>∃ x,a≤x∧x<a+len∧p=x/4096)∧Fr T w w':=by
 obtain ⟨rg,f,k0,h1,h2,h3⟩:=h.ex;have hroom:room a len=len:=by unfold room;omega
 have cw:=write_any h1 a A len cap xs hr hl hlc (fun h0 ad had e=>hA h0 ad had e.1) (by omega) hlen hn (zKE h2 hT);rw [hroom,List.take_of_length_le (by omega)] at cw;refine cw.mono ?_;rintro e w' ⟨rfl,f',k',st',h4,hf,_,hr4⟩;rw [hl] at h4 hr4;refine ⟨rfl,st',h.stored h2 h3 h4 hf (lay_bd h.by_ hb a),hr4.mono fun p hp=>?_,hf.off_of⟩;obtain ⟨x,x1,x2,rfl⟩:=hp;unfold zCT;rw [if_neg (by omega)];omega
variable {cs:Array Value} {fn:Func} {u:Tmp}
theorem zt31 {p:Tmp} (h:fn.results=#[.tmp u,.cell p 31]) (tmps:Array Value) (w:World) (g:Nat) (hp:tmps.getD p undef=.pointer (some ⟨g,0,none⟩)) (hg:w.heap[g]?=some (.cells cs 31 (0,0))) (hs:cs.size=2):(results fn tmps).run prog w=.ok (.tuple #[tmps.getD u undef,.agg cs]) w:=zBP h tmps w g 31 cs (0,0) _ hp hg underlying31 rfl (by rw [hs];kernel_rfl)
theorem zt33 {p:Tmp} (h:fn.results=#[.tmp u,.cell p 33]) (tmps:Array Value) (w:World) (g:Nat) (hp:tmps.getD p undef=.pointer (some ⟨g,0,none⟩)) (hg:w.heap[g]?=some (.cells cs 33 (0,0))) (hs:cs.size=3):(results fn tmps).run prog w=.ok (.tuple #[tmps.getD u undef,.agg cs]) w:=zBP h tmps w g 33 cs (0,0) _ hp hg underlying33 rfl (by rw [hs];kernel_rfl)
theorem rd_lt (h:Rd w A xs) (h0:0<xs.length) {ad:Addr} (e:A=some ad):ad.block<w.heap.size:=by
 obtain ⟨a2,h1,h2⟩:=h h0;rw [e] at h1;cases h1
 have:=block_lt_of_cell (h2 0 h0)
 rwa [add_block] at this
theorem zEW (h:MS T w sb n0 L M st mo ba en) (a n:Nat) (x:Int) (ha:a<2^64) (hn:n=1∨n=2∨n=4∨n=8) (hn0:n0<80000000) (hT:∀ b,w.heap.size≤b→T b):
  Calls prog 130 #[zB sb,.int .u64 (a:Int),.int .i64 (n:Int),.int .u64 x] w (zDX T w sb n0 L M st mo ba en a n x):=by
 have cf:=zHt (h.bl (Bl.new w (.cells #[.int .i64 0,.int .u64 0] 31))) a n (by omega) (by omega) hn;have cp:=fun W=>put_in none 0 0 [] x n W (Rd.nil_) rfl (by omega) (by omega) (by omega)
 simp only [List.nil_append,Nat.zero_add] at cp;have CF:=hid cf;clear cf;have CP:=hid cp;clear cp;have H:=hid h;clear h;have HT:=hid hT;clear hT;have HN:=hid hn;clear hn;unfold zB at *;go_enter func130,ntmps130;go_wp2_with fail;refine CF.out.mono ?_;rintro e w1 ⟨k,y,rfl,hh,kk⟩;have hb:=new2 w w1 _ _ _ kk;have k1:=(Bl.new w (.cells #[.int .i64 0,.int .u64 0] 31)).trans kk;clear CF kk;have HB:=hid hb;clear hb;have K1:=hid k1;clear k1;unfold zt;rcases hh with ⟨hk,hh⟩|⟨hk,hx,hh⟩
 ·subst hk;have HH:=hid hh;clear hh;have hb2:=(Bl.new w1 (.cells #[.int .i64 2,.int .u64 y] 31)).at_ HB.out;obtain ⟨d0,d1⟩:=zK hb2;obtain ⟨d2,d3⟩:=zK (zzn w1 (.cells #[.int .i64 2,.int .u64 y] 31));have f0:∀ i,(w1.alloc (.cells #[.int .i64 2,.int .u64 y] 31)).frozen? ⟨w.heap.size,i,none⟩=false:=fun i=>by simp [World.frozen?,hb2]
  have f00:=f0 0;have f01:=f0 1;have HB2:=hid hb2;clear hb2;have K2:=hid (K1.out.alloc (.cells #[.int .i64 2,.int .u64 y] 31));clear HB K1 f0 CP;go_wp2_with fail;refine zzb (zHD rfl _ _ w.heap.size rfl (set2 _ _ HB2.out) rfl) rfl ?_;exact ⟨2,y,rfl,.inl ⟨rfl,HH.out.1,HH.out.2.1,HH.out.2.2.1,HH.out.2.2.2,(K2.out.set (zzr _) _).set (zzr _) _⟩⟩
 ·subst hk hx;have htop:=zDG H.out.so hh (by have:=HN.out;omega);have HH:=hid hh;clear hh;have HTOP:=hid htop;clear htop;go_wp2_with fail;have K2:=hid (K1.out.alloc (.cells #[.int .i64 0,.int .u64 0] 31));have HB2:=hid ((Bl.new w1 (.cells #[.int .i64 0,.int .u64 0] 31)).at_ HB.out);clear HB K1;generalize w1.alloc (.cells #[.int .i64 0,.int .u64 0] 31)=W at *
  go_region_with (first|(go_at_call 156;refine (CP.out _).mono ?_;rintro e w9 ⟨B,c,rfl,rd9,k9,hc9,hb9⟩)|(go_at_call 48;have k10:=K2.out.trans ((Bl.refl W).drew.trans k9);have hbk:∀ ad,B=some ad→w.heap.size≤ad.block:=(fun ad e=>Nat.le_trans K2.out.size (hb9 ad e));refine (zGq (H.out.gap k10 w.heap.size w9.heap.size (zzr _)) a B n c (putB x n) rd9 (zBJ x n) hc9 (zHN x n) (fun h0 ad e e2=>e2.2 ⟨hbk ad e,rd_lt rd9 (by rw [zBJ];exact h0) e⟩) HTOP.out (by have:=HN.out;omega) (by omega) (zCA HT.out w.heap.size k10.size)).mono ?_;rintro e w11 ⟨rfl,st',h11,r11,f11⟩))
  all_goals (
   have hb3:=f11.at_ (((Bl.refl W).drew.trans k9).at_ HB2.out) (fun e=>e.2 ⟨zzr _,by have:=zG HB2.out;have:=((Bl.refl W).drew.trans k9).size;omega⟩);obtain ⟨d0,d1⟩:=zK hb3;have f0:∀ i,w11.frozen? ⟨w.heap.size,i,none⟩=false:=fun i=>by simp [World.frozen?,hb3]
   have f00:=f0 0;have f01:=f0 1;have HB3:=hid hb3;clear hb3;have h12:=h11.kept ((Fr.set (S:=only w.heap.size) (p:=⟨w.heap.size,0,none⟩) rfl (.int .i64 0)).trans (Fr.set (S:=only w.heap.size) (p:=⟨w.heap.size,1,none⟩) rfl (.int .u64 0))) (fun b e e2=>e.2 ⟨by rw [show b=w.heap.size from e2];exact zzr _,by rw [show b=w.heap.size from e2];have:=H.out.lt;have:=zG HB2.out;have:=((Bl.refl W).drew.trans k9).size;omega⟩);have f12:Fr T w ((w11.setCell ⟨w.heap.size,0,none⟩ (.int .i64 0)).setCell ⟨w.heap.size,1,none⟩ (.int .u64 0)):=(((Fr.zP k10).trans f11.zBW).trans (Fr.set (HT.out _ (zzr _)) _)).trans (Fr.set (HT.out _ (zzr _)) _);have H12:=hid (h12.zBW.mono (m:=n0+9) (by have:=HN.out;unfold zCT;split<;>omega));have F12:=hid f12;have R11:=hid r11;clear h12 f12 h11 f11 r11 rd9 k9 hb9 hbk k10 f0 CP;go_wp2_with fail;refine zzb (zHD rfl _ _ w.heap.size rfl (set2 _ _ HB3.out) rfl) rfl ?_;exact ⟨0,0,rfl,.inr ⟨rfl,rfl,HH.out,st',H12.out,R11.out,F12.out⟩⟩)
theorem zCw {P:Program} {fn:Func} {p q u:Tmp} {ty tz:TypeId} (h:fn.results=#[.tmp u,.cell p ty,.cell q tz]) (tmps:Array Value) (w:World) (g g':Nat) (t t':TypeId) (cs cs':Array Value) (fr fr':Nat × Nat) (d d':TypeDesc)
  (hp:tmps.getD p undef=.pointer (some ⟨g,0,none⟩)) (hg:w.heap[g]?=some (.cells cs t fr))
  (hu:P.underlying ty=some d) (hd:(match d with | .struct _ | .array _ _=>true|_=>false)=true) (hi:(P.info? ty).map (·.size)=some cs.size)
  (hp2:tmps.getD q undef=.pointer (some ⟨g',0,none⟩)) (hg2:w.heap[g']?=some (.cells cs' t' fr'))
  (hu2:P.underlying tz=some d') (hd2:(match d' with | .struct _ | .array _ _=>true|_=>false)=true) (hi2:(P.info? tz).map (·.size)=some cs'.size) :
  (results fn tmps).run P w=.ok (.tuple #[tmps.getD u undef,.agg cs,.agg cs']) w:=by
 have hp':tmps[p]?.getD undef=.pointer (some ⟨g,0,none⟩):=by simpa using hp
 have hp2':tmps[q]?.getD undef=.pointer (some ⟨g',0,none⟩):=by simpa using hp2
 simp [results,h,hp',hp2',asAddr,run_loadVar_row w g t ty cs fr d hg hu hd hi,run_loadVar_row w g' t' tz cs' fr' d' hg2 hu2 hd2 hi2,Result.andThen]
def zAR (a n:Int):Value:=.agg #[.int .u64 a,.int .i64 n]
def zAD (k fk fa:Int):Value:=.agg #[.int .i64 k,.int .i64 fk,.int .u64 fa]
theorem zFZ (w:World) (a b c:Obj):(((w.alloc a).alloc b).alloc c).heap[w.heap.size]?=some a∧(((w.alloc a).alloc b).alloc c).heap[w.heap.size+1]?=some b∧(((w.alloc a).alloc b).alloc c).heap[w.heap.size+2]?=some c:=by
 refine ⟨(Bl.new _ _).at_ ((Bl.new _ _).at_ (zzn w a)),(Bl.new _ _).at_ ?_,?_⟩
 ·have:=zzn (w.alloc a) b
  rwa [show (w.alloc a).heap.size=w.heap.size+1 by simp] at this
 ·have:=zzn ((w.alloc a).alloc b) c
  rwa [show ((w.alloc a).alloc b).heap.size=w.heap.size+2 by simp] at this
theorem row2 {a b:Value} (h:w.heap[g]?=some (.cells #[a,b] t (0,0))):w.cell? ⟨g,0,none⟩=some a∧w.cell? ⟨g,1,none⟩=some b∧w.frozen? ⟨g,0,none⟩=false∧w.frozen? ⟨g,1,none⟩=false:=by
 refine ⟨?_,?_,?_,?_⟩<;>simp [World.cell?,World.frozen?,h]
theorem row3 {a b c:Value} (h:w.heap[g]?=some (.cells #[a,b,c] t (0,0))):w.cell? ⟨g,0,none⟩=some a∧w.cell? ⟨g,1,none⟩=some b∧w.cell? ⟨g,2,none⟩=some c∧w.frozen? ⟨g,0,none⟩=false∧w.frozen? ⟨g,1,none⟩=false∧w.frozen? ⟨g,2,none⟩=false:=by
 refine ⟨?_,?_,?_,?_,?_,?_⟩<;>simp [World.cell?,World.frozen?,h]
theorem oth {p:Addr} (h:w.heap[k]?=some o) (hne:p.block≠k) (u:Value):(w.setCell p u).heap[k]?=some o:=by
 rw [zzl _ _ _ _ hne.symm];exact h
theorem Fr.zBb (f:Fr S w0 w) {p:Addr} (hp:w0.heap.size≤p.block) (u:Value):Fr S w0 (w.setCell p u):=
 ⟨f.os,f.tape,f.output,by simpa [World.setCell] using f.size,fun k hk hn=>by rw [zzl _ _ _ _ (by omega)];exact f.block k hk hn⟩
theorem zAn {a b c e:Value} (hne:g≠g2) (h:w.heap[g]?=some (.cells #[a,b] t (0,0))) (h2:w.heap[g2]?=some (.cells #[c,d,e] t2 (0,0))) (x y p q r:Value) (f:Fr S w0 w) (hg:w0.heap.size≤g) (hg2:w0.heap.size≤g2):
  (((((w.setCell ⟨g,0,none⟩ x).setCell ⟨g,1,none⟩ y).setCell ⟨g2,0,none⟩ p).setCell ⟨g2,1,none⟩ q).setCell ⟨g2,2,none⟩ r).heap[g]?=some (.cells #[x,y] t (0,0)) ∧
  (((((w.setCell ⟨g,0,none⟩ x).setCell ⟨g,1,none⟩ y).setCell ⟨g2,0,none⟩ p).setCell ⟨g2,1,none⟩ q).setCell ⟨g2,2,none⟩ r).heap[g2]?=some (.cells #[p,q,r] t2 (0,0)) ∧
  Fr S w0 (((((w.setCell ⟨g,0,none⟩ x).setCell ⟨g,1,none⟩ y).setCell ⟨g2,0,none⟩ p).setCell ⟨g2,1,none⟩ q).setCell ⟨g2,2,none⟩ r):=by
 have h3:=set2 x y h;have h4:=oth (oth h2 (p:=⟨g,0,none⟩) (fun e=>hne e) x) (p:=⟨g,1,none⟩) (fun e=>hne e) y;have ne2:g2≠g:=fun e=>hne e.symm
 exact ⟨oth (oth (oth h3 (p:=⟨g2,0,none⟩) (fun e=>ne2 e) p) (p:=⟨g2,1,none⟩) (fun e=>ne2 e) q) (p:=⟨g2,2,none⟩) (fun e=>ne2 e) r,set3 p q r h4,
  ((((f.zBb (p:=⟨g,0,none⟩) hg x).zBb (p:=⟨g,1,none⟩) hg y).zBb (p:=⟨g2,0,none⟩) hg2 p).zBb (p:=⟨g2,1,none⟩) hg2 q).zBb (p:=⟨g2,2,none⟩) hg2 r⟩
theorem zEc (k x:Int) (w:World):Calls prog 177 #[zt k x] w fun e w'=>e=.returned (.tuple #[.int .u64 0,zAR 0 0,zAD 4 k x])∧Bl w w':=by
 unfold zt;go_enter func177,ntmps177;go_wp2_with fail;go_region
 all_goals (
  (try go_wp2_with fail)
  have hh:=zFZ w (.cells #[.int .i64 k,.int .u64 x] 31) (.cells #[.int .u64 0,.int .i64 0] 45) (.cells #[.int .i64 4,.int .i64 k,.int .u64 x] 33);refine zzb (zCw rfl _ _ (w.heap.size+1) (w.heap.size+1+1) 45 33 _ _ (0,0) (0,0) _ _ rfl (hh.2.1) underlying45 rfl (by kernel_rfl) rfl (hh.2.2) underlying33 rfl (by kernel_rfl)) rfl ?_;exact ⟨rfl,((((Bl.refl w).alloc _).alloc _).alloc _).drew⟩)
theorem zGv (a n x:Int) (w:World) (hn:n=4∨n=8):Calls prog 178 #[zAR a n,.int .u64 x] w fun e w'=>e=.returned (.int .u64 (zV x (8*n)))∧Bl w w':=by
 have cs:=fun w=>zCL x (8*n) w
 have CS:=hid cs;clear cs;unfold zAR;have h0:0≤n:=by omega
 have h1:n≤8:=by omega
 clear hn;go_enter func178,ntmps178;go_wp2_with fail;with_reducible refine (CS.out _).mono ?_
 rintro e w' ⟨rfl,rfl⟩;go_wp2_with fail;go_ret;exact ⟨rfl,Bl.new _ _⟩
theorem zAo {p q:Tmp} (h:fn.results=#[.tmp u,.cell p 45,.cell q 33]) (tmps:Array Value) (w:World) (g g':Nat) {cs':Array Value} (hp:tmps.getD p undef=.pointer (some ⟨g,0,none⟩)) (hg:w.heap[g]?=some (.cells cs 45 (0,0))) (hs:cs.size=2) (hp2:tmps.getD q undef=.pointer (some ⟨g',0,none⟩)) (hg2:w.heap[g']?=some (.cells cs' 33 (0,0))) (hs2:cs'.size=3):(results fn tmps).run prog w=.ok (.tuple #[tmps.getD u undef,.agg cs,.agg cs']) w:=zCw h tmps w g g' 45 33 cs cs' (0,0) (0,0) _ _ hp hg underlying45 rfl (by rw [hs];kernel_rfl) hp2 hg2 underlying33 rfl (by rw [hs2];kernel_rfl)
def Grow (M M' st st':Nat→Int):Prop:=Rise st st' (fun p=>∃ x:Nat,x/4096=p∧M' x≠M x)
theorem Grow.refl (M st:Nat→Int):Grow M M st st:=(Rise.refl st).mono fun _ ⟨_,_,h⟩=>h rfl
theorem zFI {a:Nat} {x:Int} (h:Rise st st' (fun p=>∃ x,a≤x∧x<a+n∧p=x/4096)):Grow M (lay M a (putB x n)) st st':=h.mono fun p ⟨y,h1,h2⟩=>by
 refine ⟨y,?_⟩;unfold lay at h2;rw [zBJ] at h2
 split at h2
 ·rename_i h3;exact ⟨h3.1,h3.2,h1.symm⟩
 ·exact absurd rfl h2
def zg (L:List Rg) (p a:Int) (n:Nat) (z:Int):Prop:=a≤z∧z<a+n∧¬ Can L p z∧∀ y,a≤y→y<z→Can L p y
def zAi (L:List Rg) (p a:Int) (n:Nat):Prop:=∀ y,a≤y→y<a+n→Can L p y
theorem zg.not {z:Int} (h:zg L p a n z) (k:zAi L p a n):False:=h.2.2.1 (k z h.1 h.2.1)
theorem zg.one {z y:Int} (h:zg L p a n z) (k:zg L p a n y):z=y:=by
 rcases Int.lt_trichotomy z y with h1|h1|h1
 ·exact absurd (k.2.2.2 z h.1 h1) h.2.2.1
 ·exact h1
 ·exact absurd (h.2.2.2 y k.1 h1) k.2.2.1
structure Out where
 y:Int
 ta:Int
 tn:Int
 k:Int
 fk:Int
 fa:Int
def Out.v (o:Out):Value:=.tuple #[.int .u64 o.y,zAR o.ta o.tn,zAD o.k o.fk o.fa]
def badO (k fk fa:Int):Out:=⟨0,0,0,k,fk,fa⟩
section
variable {T:Nat→Prop} {w:World} {sb n0:Nat} {L:List Rg} {M st:Nat→Int} {mo ba en:Int}
def LoadHPost (w:World) (L:List Rg) (M:Nat→Int) (a n:Nat) (e:Ending) (w':World):Prop:=∃ o:Out,e=.returned o.v∧((∃ z,zg L 1 a n z∧o=badO 4 1 z)∨(zAi L 1 a n∧o=⟨zV (zb M a n) (8*n),a,n,0,0,0⟩))∧Bl w w'
theorem zIE (h:MS T w sb n0 L M st mo ba en) (a n:Nat) (ha:a<2^64) (hn:n=4∨n=8) :
  Calls prog 157 #[zB sb,zAR a n] w (LoadHPost w L M a n):=by
 obtain ⟨b0,b1,b2⟩:=zFZ w (.cells #[.int .u64 (a:Int),.int .i64 (n:Int)] 45) (.cells #[.int .u64 0,.int .i64 0] 45) (.cells #[.int .i64 0,.int .i64 0,.int .u64 0] 33);have k0:Bl w (((w.alloc (.cells #[.int .u64 (a:Int),.int .i64 (n:Int)] 45)).alloc (.cells #[.int .u64 0,.int .i64 0] 45)).alloc (.cells #[.int .i64 0,.int .i64 0,.int .u64 0] 33)):=(((Bl.refl w).alloc _).alloc _).alloc _;have cl:=zHS (h.bl k0) a n ha (by omega);have cf:=fun x w=>zGv a n x w (by omega)
 have cfa:=fun k x w=>zEc k x w
 have CL:=hid cl;clear cl h;have CF:=hid cf;clear cf;have CFA:=hid cfa;clear cfa;have B0:=hid b0;clear b0;have B1:=hid b1;clear b1;have B2:=hid b2;clear b2;have K0:=hid k0;clear k0;have HN:=hid hn;clear hn;have HA:=hid ha;clear ha;unfold zB zAR zAD zt at *;go_enter func157,ntmps157;go_wp2_with fail;with_reducible refine CL.out.mono ?_
 rintro e w1 ⟨y,k,x,rfl,hh,kk⟩;have D0:=hid (kk.at_ B0.out);have D1:=hid (kk.at_ B1.out);have D2:=hid (kk.at_ B2.out);have K1:=hid (K0.out.trans kk);clear B0 B1 B2 K0 kk CL;unfold zt;rcases hh with ⟨rfl,hy,hh⟩|⟨rfl,hx,hy,hh⟩
 ·have HH:=hid hh;clear hh;have HY:=hid hy;clear hy;go_wp2_with fail;with_reducible refine (CFA.out 1 x _).mono ?_
  rintro e w2 ⟨rfl,k2⟩;have E1:=(((Bl.new w1 (.cells #[.int .i64 1,.int .u64 x] 31)).trans k2).at_ D1.out);have E2:=(((Bl.new w1 (.cells #[.int .i64 1,.int .u64 x] 31)).trans k2).at_ D2.out);have K2:=hid (K1.out.trans ((Bl.new w1 (.cells #[.int .i64 1,.int .u64 x] 31)).trans k2));obtain ⟨c0,c1,f0,f1⟩:=row2 E1;obtain ⟨d0,d1,d2,q0,q1,q2⟩:=row3 E2;have E1':=hid E1;clear E1;have E2':=hid E2;clear E2 k2;go_wp2_with fail;obtain ⟨s1,s2,s3⟩:=zAn (S:=fun _=>False) (by omega) E1'.out E2'.out (.int .u64 0) (.int .i64 0) (.int .i64 4) (.int .i64 1) (.int .u64 x) (Fr.zP K2.out) (by omega) (by omega);refine zzb (zAo rfl _ _ (w.heap.size+1) (w.heap.size+1+1) rfl (s1) rfl rfl (s2) rfl) rfl ?_;exact ⟨badO 4 1 x,rfl,.inl ⟨x,HH.out,rfl⟩,s3.bl (fun _ _ e=>e)⟩
 ·have HH:=hid hh;clear hh;have HY:=hid hy;clear hy;have HX:=hid hx;clear hx;go_wp2_with fail;have F0:=hid ((Bl.new w1 (.cells #[.int .i64 0,.int .u64 x] 31)).at_ D0.out);have F1:=hid ((Bl.new w1 (.cells #[.int .i64 0,.int .u64 x] 31)).at_ D1.out);have F2:=hid ((Bl.new w1 (.cells #[.int .i64 0,.int .u64 x] 31)).at_ D2.out);have KW:=hid (K1.out.alloc (.cells #[.int .i64 0,.int .u64 x] 31));clear D0 D1 D2 K1;generalize w1.alloc (.cells #[.int .i64 0,.int .u64 x] 31)=W at *;obtain ⟨c0,c1,g0,g1⟩:=row2 F0.out
  go_region_with (first|(go_at_call 178;refine (CF.out _ _).mono ?_;rintro e w9 ⟨rfl,k9⟩;have G0:=k9.at_ F0.out;obtain ⟨c0,c1,g0,g1⟩:=row2 G0;have E1:=k9.at_ F1.out;have E2:=k9.at_ F2.out;obtain ⟨x0,x1,f0,f1⟩:=row2 E1;obtain ⟨d0,d1,d2,q0,q1,q2⟩:=row3 E2))
  all_goals (
   (try go_wp2_with fail)
   obtain ⟨s1,s2,s3⟩:=zAn (S:=fun _=>False) (by omega) E1 E2 (.int .u64 (a:Int)) (.int .i64 (n:Int)) (.int .i64 0) (.int .i64 0) (.int .u64 0) (Fr.zP (KW.out.trans ((Bl.refl W).drew.trans k9))) (by omega) (by omega);refine zzb (zAo rfl _ _ (w.heap.size+1) (w.heap.size+1+1) rfl (s1) rfl rfl (s2) rfl) rfl ?_;exact ⟨⟨zV (zb M a n) (8*n),a,n,0,0,0⟩,by rw [HY.out];rfl,.inr ⟨HH.out,rfl⟩,s3.bl (fun _ _ e=>e)⟩)
def StoreHPost (T:Nat → Prop) (w:World) (sb n0:Nat) (L:List Rg) (M st:Nat → Int) (mo ba en:Int) (ha hn:Int) (a n:Nat) (x:Int) (e:Ending) (w':World):Prop:=∃ o:Out,e = .returned o.v ∧
  ((∃ z,zg L 2 a n z∧o = badO 4 2 z∧Bl w w') ∨ (zAi L 2 a n∧¬ (ha = a∧hn = n)∧o = ⟨1,0,0,0,0,0⟩∧Bl w w') ∨
   (zAi L 2 a n∧(ha = a∧hn = n)∧o = ⟨0,0,0,0,0,0⟩∧(∃ st',Grow M (lay M a (putB x n)) st st'∧MS T w' sb (n0 + 9) L (lay M a (putB x n)) st' mo ba en)∧Fr T w w'))
theorem zJk {w:World} (x y p q r:Value):Fr (fun b=>b=g∨b=g2) w (((((w.setCell ⟨g,0,none⟩ x).setCell ⟨g,1,none⟩ y).setCell ⟨g2,0,none⟩ p).setCell ⟨g2,1,none⟩ q).setCell ⟨g2,2,none⟩ r):=
 ((((Fr.set (p:=⟨g,0,none⟩) (.inl rfl) x).trans (Fr.set (p:=⟨g,1,none⟩) (.inl rfl) y)).trans (Fr.set (p:=⟨g2,0,none⟩) (.inr rfl) p)).trans (Fr.set (p:=⟨g2,1,none⟩) (.inr rfl) q)).trans (Fr.set (p:=⟨g2,2,none⟩) (.inr rfl) r)
theorem zHa (w:World) (a b c d:Obj):((((w.alloc a).alloc b).alloc c).alloc d).heap[w.heap.size]?=some a∧((((w.alloc a).alloc b).alloc c).alloc d).heap[w.heap.size+1]?=some b∧((((w.alloc a).alloc b).alloc c).alloc d).heap[w.heap.size+2]?=some c∧((((w.alloc a).alloc b).alloc c).alloc d).heap[w.heap.size+3]?=some d:=by
 obtain ⟨h1,h2,h3⟩:=zFZ w a b c;refine ⟨(Bl.new _ _).at_ h1,(Bl.new _ _).at_ h2,(Bl.new _ _).at_ h3,?_⟩
 have:=zzn (((w.alloc a).alloc b).alloc c) d
 rwa [show (((w.alloc a).alloc b).alloc c).heap.size=w.heap.size+3 by simp] at this
theorem hold_neq (a n b m:Int) (w:World):(Go.binOp .neq 45 (.agg #[.int .u64 a,.int .i64 n]) (.agg #[.int .u64 b,.int .i64 m])).run prog w=.ok (.bool (decide (¬ (a=b∧n=m)))) w:=by
 go_simp
 split<;>(try split)<;>simp_all
theorem zGb (h:MS T w sb n0 L M st mo ba en) (ha hn:Int) (a n:Nat) (x:Int) (hA:a<2^64) (hN:n=4∨n=8) (hn0:n0<80000000) (hT:∀ b,w.heap.size≤b→T b) :
  Calls prog 158 #[zB sb,zAR ha hn,zAR a n,.int .u64 x] w (StoreHPost T w sb n0 L M st mo ba en ha hn a n x):=by
 obtain ⟨b0,b1,b2,b3⟩:=zHa w (.cells #[.int .u64 ha,.int .i64 hn] 45) (.cells #[.int .u64 (a:Int),.int .i64 (n:Int)] 45) (.cells #[.int .u64 0,.int .i64 0] 45) (.cells #[.int .i64 0,.int .i64 0,.int .u64 0] 33);have k0:Bl w ((((w.alloc (.cells #[.int .u64 ha,.int .i64 hn] 45)).alloc (.cells #[.int .u64 (a:Int),.int .i64 (n:Int)] 45)).alloc (.cells #[.int .u64 0,.int .i64 0] 45)).alloc (.cells #[.int .i64 0,.int .i64 0,.int .u64 0] 33)):=((((Bl.refl w).alloc _).alloc _).alloc _).alloc _;have cl:=zHt (h.bl k0) a n (by omega) (by omega) (by omega);have cs:=fun W (k:Bl w W)=>zEW (h.gap k w.heap.size W.heap.size (zzr _)) a n x hA (by omega) hn0 (zCA hT w.heap.size k.size)
 have hq:=hold_neq ha hn a n;have CL:=hid cl;clear cl;have CS:=hid cs;clear cs;have cfa:=fun k x w=>zEc k x w
 have CFA:=hid cfa;clear cfa;have H:=hid h;clear h;have HT_:=hid hT;clear hT;have B0:=hid b0;clear b0;have B1:=hid b1;clear b1;have B2:=hid b2;clear b2;have B3:=hid b3;clear b3;have K0:=hid k0;clear k0;have HN:=hid hN;clear hN;have HA:=hid hA;clear hA;have HQ:=hid hq;clear hq;have HN0:=hid hn0;clear hn0;unfold zB zAR zAD zt at *;go_enter func158,ntmps158;go_wp2_with fail;with_reducible refine CL.out.mono ?_
 rintro e w1 ⟨k,y,rfl,hh,kk⟩;have D0:=hid (kk.at_ B0.out);have D1:=hid (kk.at_ B1.out);have D2:=hid (kk.at_ B2.out);have D3:=hid (kk.at_ B3.out);have K1:=hid (K0.out.trans kk);clear B0 B1 B2 B3 K0 kk CL;unfold zt;rcases hh with ⟨rfl,hh⟩|⟨rfl,hx,hh⟩
 ·have HH:=hid hh;clear hh;go_wp2_with fail;with_reducible refine (CFA.out 2 y _).mono ?_
  rintro e w2 ⟨rfl,k2⟩;have E1:=(((Bl.new w1 (.cells #[.int .i64 2,.int .u64 y] 31)).trans k2).at_ D2.out);have E2:=(((Bl.new w1 (.cells #[.int .i64 2,.int .u64 y] 31)).trans k2).at_ D3.out);have K2:=hid (K1.out.trans ((Bl.new w1 (.cells #[.int .i64 2,.int .u64 y] 31)).trans k2));obtain ⟨c0,c1,f0,f1⟩:=row2 E1;obtain ⟨d0,d1,d2,q0,q1,q2⟩:=row3 E2;have E1':=hid E1;clear E1;have E2':=hid E2;clear E2 k2;go_wp2_with fail;obtain ⟨s1,s2,s3⟩:=zAn (S:=fun _=>False) (by omega) E1'.out E2'.out (.int .u64 0) (.int .i64 0) (.int .i64 4) (.int .i64 2) (.int .u64 y) (Fr.zP K2.out) (by omega) (by omega);refine zzb (zAo rfl _ _ (w.heap.size+1+1) (w.heap.size+1+1+1) rfl (s1) rfl rfl (s2) rfl) rfl ?_;exact ⟨badO 4 2 y,rfl,.inl ⟨y,HH.out,rfl,s3.bl (fun _ _ e=>e)⟩⟩
 ·have HH:=hid hh;clear hh;have HX:=hid hx;clear hx;have F0:=hid ((Bl.new w1 (.cells #[.int .i64 0,.int .u64 y] 31)).at_ D0.out);have F1:=hid ((Bl.new w1 (.cells #[.int .i64 0,.int .u64 y] 31)).at_ D1.out);have F2:=hid ((Bl.new w1 (.cells #[.int .i64 0,.int .u64 y] 31)).at_ D2.out);have F3:=hid ((Bl.new w1 (.cells #[.int .i64 0,.int .u64 y] 31)).at_ D3.out);have KW:=hid (K1.out.alloc (.cells #[.int .i64 0,.int .u64 y] 31));clear D0 D1 D2 D3 K1;go_upto_region 4 with (fail);generalize w1.alloc (.cells #[.int .i64 0,.int .u64 y] 31)=W at *;obtain ⟨c0,c1,g0,g1⟩:=row2 F0.out;obtain ⟨c2,c3,g2,g3⟩:=row2 F1.out;by_cases he:ha=a∧hn=n
  ·have hq:=HQ.out;rw [zzf (fun h=>h he)] at hq;have HE:=hid he;clear he;go_wp2_with fail;with_reducible refine (CS.out _ KW.out).mono ?_
   rintro e w2 ⟨k,z,rfl,hs⟩;rcases hs with ⟨hk,z1,z2,z3,_⟩|⟨hk,hz,_,st',hms,hri,hfr⟩
   ·exact absurd (HH.out z z1 z2) z3
   ·have HRI:=hid (zFI (M:=M) (x:=x) hri);clear hri;have E1:=hfr.at_ F2.out (fun e=>e.2 ⟨by omega,by have:=zG F2.out;omega⟩);have E2:=hfr.at_ F3.out (fun e=>e.2 ⟨by omega,by have:=zG F3.out;omega⟩);obtain ⟨x0,x1,f0,f1⟩:=row2 E1;obtain ⟨d0,d1,d2,q0,q1,q2⟩:=row3 E2;have hfr2:Fr T w w2:=(Fr.zP KW.out).trans hfr.zBW;have HFR2:=hid hfr2;clear hfr2 hfr;have HMS:=hid hms;clear hms;have E1':=hid E1;clear E1;have E2':=hid E2;clear E2 hq;have HSZ:=hid KW.out.size;go_wp2_with fail;obtain ⟨s1,s2,s3⟩:=zAn (S:=T) (by omega) E1'.out E2'.out (.int .u64 0) (.int .i64 0) (.int .i64 0) (.int .i64 0) (.int .u64 0) HFR2.out (by omega) (by omega);have hms2:=HMS.out.kept (zJk (g:=w.heap.size+1+1) (g2:=w.heap.size+1+1+1) (.int .u64 0) (.int .i64 0) (.int .i64 0) (.int .i64 0) (.int .u64 0)) (fun b e e2=>e.2 ⟨by omega,by have h8:=zG F2.out;have h9:=zG F3.out;omega⟩);refine zzb (zAo rfl _ _ (w.heap.size+1+1) (w.heap.size+1+1+1) rfl (s1) rfl rfl (s2) rfl) rfl ?_;exact ⟨⟨0,0,0,0,0,0⟩,rfl,.inr (.inr ⟨HH.out,HE.out,rfl,⟨st',HRI.out,hms2.zBW⟩,s3⟩)⟩
  ·have hq:=HQ.out;rw [decide_eq_true he] at hq;have HE:=hid he;clear he;have E1:=F2.out;have E2:=F3.out;obtain ⟨x0,x1,f0,f1⟩:=row2 E1;obtain ⟨d0,d1,d2,q0,q1,q2⟩:=row3 E2;have E1':=hid E1;clear E1;have E2':=hid E2;clear E2;go_wp2_with fail;obtain ⟨s1,s2,s3⟩:=zAn (S:=fun _=>False) (by omega) E1'.out E2'.out (.int .u64 0) (.int .i64 0) (.int .i64 0) (.int .i64 0) (.int .u64 0) (Fr.zP KW.out) (by omega) (by omega);refine zzb (zAo rfl _ _ (w.heap.size+1+1) (w.heap.size+1+1+1) rfl (s1) rfl rfl (s2) rfl) rfl ?_;exact ⟨⟨1,0,0,0,0,0⟩,rfl,.inr (.inl ⟨HH.out,HE.out,rfl,s3.bl (fun _ _ e=>e)⟩)⟩
end
section
variable {T:Nat→Prop} {w:World} {sb n0:Nat} {L:List Rg} {M st:Nat→Int} {mo ba en:Int}
theorem zEF {M:Nat→Int} (h:∀ x,0≤M x∧M x≤255) (a n:Nat) (hn:n=4∨n=8):0≤zb M a n∧zb M a n<18446744073709551616:=by
 have h1:=zHX (zf M a n) (zCh h a n) n;unfold zb;rcases hn with rfl|rfl
 ·have:(2:Int)^(8*4)=4294967296:=rfl
  omega
 ·have:(2:Int)^(8*8)=18446744073709551616:=rfl
  omega
theorem zCq {hi:Nat} (hms:MS (gap T w.heap.size hi) w2 sb n0 L M st mo ba en) (hg:w.heap.size≤g∧g<hi) (hg2:w.heap.size≤g2∧g2<hi) (x y p q r:Value):MS T (((((w2.setCell ⟨g,0,none⟩ x).setCell ⟨g,1,none⟩ y).setCell ⟨g2,0,none⟩ p).setCell ⟨g2,1,none⟩ q).setCell ⟨g2,2,none⟩ r) sb n0 L M st mo ba en:=
 (hms.kept (zJk (g:=g) (g2:=g2) x y p q r) (fun b e e2=>e.2 (by rcases e2 with e2|e2<;>rw [e2];exact hg;exact hg2))).zBW
def ChangePost (T:Nat → Prop) (w:World) (sb n0:Nat) (L:List Rg) (M st:Nat → Int) (mo ba en:Int) (ha hn op:Int) (a n:Nat) (x:Int) (e:Ending) (w':World):Prop:=∃ o:Out,e = .returned o.v ∧
  ((∃ z,zg L 1 a n z∧o = badO 4 1 z∧Bl w w') ∨ (∃ z,zAi L 1 a n∧zg L 2 a n z∧o = badO 4 2 z∧Bl w w') ∨
   (zAi L 1 a n∧zAi L 2 a n∧o = ⟨zV (zb M a n) (8 * n),ha,hn,0,0,0⟩∧(∃ st',Grow M (lay M a (putB (amoV op (zb M a n) x) n)) st st'∧MS T w' sb (n0 + 9) L (lay M a (putB (amoV op (zb M a n) x) n)) st' mo ba en)∧Fr T w w'))
theorem zGx (h:MS T w sb n0 L M st mo ba en) (ha hn op:Int) (a n:Nat) (x:Int) (hA:a<2^64) (hN:n=4∨n=8) (hx0:0≤x) (hx1:x<18446744073709551616) (hn0:n0<80000000) (hT:∀ b,w.heap.size≤b→T b) :
  Calls prog 159 #[zB sb,zAR ha hn,zAR a n,.int .i64 op,.int .u64 x] w (ChangePost T w sb n0 L M st mo ba en ha hn op a n x):=by
 obtain ⟨b0,b1,b2,b3⟩:=zHa w (.cells #[.int .u64 ha,.int .i64 hn] 45) (.cells #[.int .u64 (a:Int),.int .i64 (n:Int)] 45) (.cells #[.int .u64 0,.int .i64 0] 45) (.cells #[.int .i64 0,.int .i64 0,.int .u64 0] 33);have k0:Bl w ((((w.alloc (.cells #[.int .u64 ha,.int .i64 hn] 45)).alloc (.cells #[.int .u64 (a:Int),.int .i64 (n:Int)] 45)).alloc (.cells #[.int .u64 0,.int .i64 0] 45)).alloc (.cells #[.int .i64 0,.int .i64 0,.int .u64 0] 33)):=((((Bl.refl w).alloc _).alloc _).alloc _).alloc _;have cl:=zHS (h.bl k0) a n hA (by omega);have nb:=zEF h.by_ a n hN;have cd:=fun w=>do_any op (zb M a n) x w nb.1 nb.2 hx0 hx1
 have cs:=fun W (k:Bl w W)=>zEW (h.gap k w.heap.size W.heap.size (zzr _)) a n (amoV op (zb M a n) x) hA (by omega) hn0 (zCA hT w.heap.size k.size)
 have cf:=fun x w=>zGv a n x w (by omega)
 have cfa:=fun k x w=>zEc k x w
 have CL:=hid cl;clear cl;have CD:=hid cd;clear cd;have CS:=hid cs;clear cs;have CF:=hid cf;clear cf;have CFA:=hid cfa;clear cfa;have H:=hid h;clear h;have HT_:=hid hT;clear hT;have B0:=hid b0;clear b0;have B1:=hid b1;clear b1;have B2:=hid b2;clear b2;have B3:=hid b3;clear b3;have K0:=hid k0;clear k0;have HN:=hid hN;clear hN;have HA:=hid hA;clear hA;have HN0:=hid hn0;clear hn0;have NB:=hid nb;clear nb hx0 hx1;unfold zB zAR zAD zt at *;go_enter func159,ntmps159;go_wp2_with fail;with_reducible refine CL.out.mono ?_
 rintro e w1 ⟨y,k,z,rfl,hh,kk⟩;have D0:=hid (kk.at_ B0.out);have D1:=hid (kk.at_ B1.out);have D2:=hid (kk.at_ B2.out);have D3:=hid (kk.at_ B3.out);have K1:=hid (K0.out.trans kk);clear B0 B1 B2 B3 K0 kk CL;unfold zt;rcases hh with ⟨rfl,hy,hh⟩|⟨rfl,hx,hy,hh⟩
 ·have HH:=hid hh;clear hh;have HY:=hid hy;clear hy;go_wp2_with fail;with_reducible refine (CFA.out 1 z _).mono ?_
  rintro e w2 ⟨rfl,k2⟩;have E1:=(((Bl.new w1 (.cells #[.int .i64 1,.int .u64 z] 31)).trans k2).at_ D2.out);have E2:=(((Bl.new w1 (.cells #[.int .i64 1,.int .u64 z] 31)).trans k2).at_ D3.out);have K2:=hid (K1.out.trans ((Bl.new w1 (.cells #[.int .i64 1,.int .u64 z] 31)).trans k2));obtain ⟨c0,c1,f0,f1⟩:=row2 E1;obtain ⟨d0,d1,d2,q0,q1,q2⟩:=row3 E2;have E1':=hid E1;clear E1;have E2':=hid E2;clear E2 k2;go_wp2_with fail;obtain ⟨s1,s2,s3⟩:=zAn (S:=fun _=>False) (by omega) E1'.out E2'.out (.int .u64 0) (.int .i64 0) (.int .i64 4) (.int .i64 1) (.int .u64 z) (Fr.zP K2.out) (by omega) (by omega);refine zzb (zAo rfl _ _ (w.heap.size+1+1) (w.heap.size+1+1+1) rfl (s1) rfl rfl (s2) rfl) rfl ?_;exact ⟨badO 4 1 z,rfl,.inl ⟨z,HH.out,rfl,s3.bl (fun _ _ e=>e)⟩⟩
 ·have HH:=hid hh;clear hh;subst hy hx;have F0:=hid ((Bl.new w1 (.cells #[.int .i64 0,.int .u64 0] 31)).at_ D0.out);have F1:=hid ((Bl.new w1 (.cells #[.int .i64 0,.int .u64 0] 31)).at_ D1.out);have F2:=hid ((Bl.new w1 (.cells #[.int .i64 0,.int .u64 0] 31)).at_ D2.out);have F3:=hid ((Bl.new w1 (.cells #[.int .i64 0,.int .u64 0] 31)).at_ D3.out);have KW:=hid (K1.out.alloc (.cells #[.int .i64 0,.int .u64 0] 31));clear D0 D1 D2 D3 K1;go_wp2_with fail;with_reducible refine (CD.out _).mono ?_
  rintro e w' ⟨rfl,rfl⟩;generalize w1.alloc (.cells #[.int .i64 0,.int .u64 0] 31)=W at *;obtain ⟨c0,c1,g0,g1⟩:=row2 F0.out;obtain ⟨c2,c3,g2,g3⟩:=row2 F1.out;go_wp2_with fail;with_reducible refine (CS.out _ KW.out).mono ?_
  rintro e w2 ⟨k,z,rfl,hs⟩;have HSZ:=hid (zG F3.out);unfold zt;rcases hs with ⟨rfl,z1,z2,z3,z4,k2⟩|⟨rfl,rfl,hz,st',hms,hri,hfr⟩
  ·have HZ:=hid (show zg L 2 a n z from ⟨z1,z2,z3,z4⟩);clear z1 z2 z3 z4;go_wp2_with fail;with_reducible refine (CFA.out 2 z _).mono ?_
   rintro e w3 ⟨rfl,k3⟩;have k4:Bl W w3:=k2.trans ((Bl.new w2 (.cells #[.int .i64 2,.int .u64 z] 31)).trans k3);have E1:=k4.at_ F2.out;have E2:=k4.at_ F3.out;have K4:=hid (KW.out.trans k4);obtain ⟨x0,x1,f0,f1⟩:=row2 E1;obtain ⟨d0,d1,d2,q0,q1,q2⟩:=row3 E2;have E1':=hid E1;clear E1;have E2':=hid E2;clear E2 k2 k3 k4;go_wp2_with fail;obtain ⟨s1,s2,s3⟩:=zAn (S:=fun _=>False) (by omega) E1'.out E2'.out (.int .u64 0) (.int .i64 0) (.int .i64 4) (.int .i64 2) (.int .u64 z) (Fr.zP K4.out) (by omega) (by omega);refine zzb (zAo rfl _ _ (w.heap.size+1+1) (w.heap.size+1+1+1) rfl (s1) rfl rfl (s2) rfl) rfl ?_;exact ⟨badO 4 2 z,rfl,.inr (.inl ⟨z,HH.out,HZ.out,rfl,s3.bl (fun _ _ e=>e)⟩)⟩
  ·have HZ:=hid (show zAi L 2 a n from hz);clear hz;have HRI:=hid (zFI (M:=M) (x:=amoV op (zb M a n) x) hri);clear hri;go_wp2_with fail;have hfr2:Fr (gap T w.heap.size W.heap.size) W (w2.alloc (.cells #[.int .i64 0,.int .u64 0] 31)):=hfr.trans (Fr.zP (Bl.new _ _));have HMS:=hid (hms.bl (Bl.new w2 (.cells #[.int .i64 0,.int .u64 0] 31)));clear hms;have G0:=hid (hfr2.at_ F0.out (fun e=>e.2 ⟨by omega,by have:=HSZ.out;omega⟩));have G1:=hid (hfr2.at_ F1.out (fun e=>e.2 ⟨by omega,by have:=HSZ.out;omega⟩));have G2:=hid (hfr2.at_ F2.out (fun e=>e.2 ⟨by omega,by have:=HSZ.out;omega⟩));have G3:=hid (hfr2.at_ F3.out (fun e=>e.2 ⟨by omega,by have:=HSZ.out;omega⟩));have HFR:=hid (((Fr.zP KW.out).trans hfr2.zBW:Fr T w _));clear hfr hfr2;generalize w2.alloc (.cells #[.int .i64 0,.int .u64 0] 31)=V at *;obtain ⟨c0,c1,g0,g1⟩:=row2 G0.out;obtain ⟨c2,c3,g2,g3⟩:=row2 G1.out
   go_region_with (first|(go_at_call 178;refine (CF.out _ _).mono ?_;rintro e w9 ⟨rfl,k9⟩;have I0:=k9.at_ G0.out;have I1:=k9.at_ G1.out;obtain ⟨c0,c1,g0,g1⟩:=row2 I0;obtain ⟨c2,c3,g2,g3⟩:=row2 I1;have E1:=k9.at_ G2.out;have E2:=k9.at_ G3.out;obtain ⟨x0,x1,f0,f1⟩:=row2 E1;obtain ⟨d0,d1,d2,q0,q1,q2⟩:=row3 E2))
   all_goals (
    (try go_wp2_with fail)
    have k9':Bl V w9:=(Bl.refl V).drew.trans k9;obtain ⟨s1,s2,s3⟩:=zAn (S:=T) (by omega) E1 E2 (.int .u64 ha) (.int .i64 hn) (.int .i64 0) (.int .i64 0) (.int .u64 0) (HFR.out.trans (Fr.zP k9')) (by omega) (by omega);have hms2:=zCq (g:=w.heap.size+1+1) (g2:=w.heap.size+1+1+1) (HMS.out.bl k9') (by have:=HSZ.out;omega) (by have:=HSZ.out;omega) (.int .u64 ha) (.int .i64 hn) (.int .i64 0) (.int .i64 0) (.int .u64 0);refine zzb (zAo rfl _ _ (w.heap.size+1+1) (w.heap.size+1+1+1) rfl (s1) rfl rfl (s2) rfl) rfl ?_;exact ⟨⟨zV (zb M a n) (8*n),ha,hn,0,0,0⟩,rfl,.inr (.inr ⟨HH.out,HZ.out,rfl,⟨st',HRI.out,hms2⟩,s3⟩)⟩)
end
end Go.Proofs.YtlhpodholnfppaaGreatDoor
