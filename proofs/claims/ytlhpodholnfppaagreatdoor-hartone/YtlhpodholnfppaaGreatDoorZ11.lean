/-
  Part of the proof.
-/
import Derived.Test.YtlhpodholnfppaaGreatDoorZ10
import Derived.Deep.Slices
import Derived.ChangeSame
set_option linter.unusedVariables false
set_option linter.unusedSimpArgs false
set_option maxHeartbeats 16000000
set_option maxRecDepth 100000
set_option linter.defProp false
open Go.Lib (hid)
namespace Go.Proofs.YtlhpodholnfppaaGreatDoor
open Go.Proofs.Tryz
open Go.RowKit
structure Mach (T:Nat→Prop) (w:World) (hb sb cb B n:Nat) (on:Bool) (s:St) (L:List Rg) (M st:Nat→Int) (mo ba en:Int):Prop where
 ht:HtAt w hb s.pc s.xs s.ha s.hn sb cb
 regs:Regs s.xs
 pcb:0≤s.pc∧s.pc<18446744073709551616
 base:Base T w hb sb cb B n on L M st mo ba en
section
variable {T:Nat→Prop} {w:World} {hb sb cb B n:Nat} {on:Bool} {s:St} {L:List Rg} {M st:Nat→Int} {mo ba en:Int}
def HartPost (T:Nat→Prop) (w:World) (hb sb cb B n:Nat) (on:Bool) (s:St) (L:List Rg) (M st:Nat→Int) (mo ba en:Int) (e:Ending) (w':World):Prop:=
 ∃ k fk fa s' M' st',zBT L M s k fk fa s' M'∧e=.returned (zAD k fk fa)∧Mach T w' hb sb cb B (n+9) on s' L M' st' mo ba en∧Fr (fun x=>T x∨x=hb∨x=B) w w'
structure HoV (T:Nat→Prop) (w:World) (hb sb cb B n:Nat) (on:Bool) (s:St) (L:List Rg) (M st:Nat→Int) (mo ba en:Int) (V:World):Prop where
 res:V.heap[w.heap.size]?=some (.cells #[.int .i64 0,.int .i64 0,.int .u64 0] 33 (0,0))
 nxt:StAt V (w.heap.size+1) s.pc s.xs s.ha s.hn
 ht:HtAt V hb s.pc s.xs s.ha s.hn sb cb
 base:Base (gap T w.heap.size V.heap.size) V (w.heap.size+1) sb cb B n on L M st mo ba en
 bl:Bl w V
theorem hov_of (h:Mach T w hb sb cb B n on s L M st mo ba en):HoV T w hb sb cb B n on s L M st mo ba en ((w.alloc (.cells #[.int .i64 0,.int .i64 0,.int .u64 0] 33)).alloc (.cells (stV s.pc s.xs s.ha s.hn).toArray 47)):=by
 have k0:Bl w ((w.alloc (.cells #[.int .i64 0,.int .i64 0,.int .u64 0] 33)).alloc (.cells (stV s.pc s.xs s.ha s.hn).toArray 47)):=(Bl.new _ _).alloc _;obtain ⟨b0,b1⟩:=zBf w (.cells #[.int .i64 0,.int .i64 0,.int .u64 0] 33) (.cells (stV s.pc s.xs s.ha s.hn).toArray 47);have hl1:=zG b1;have h0:=h.base;have hlt:=h.ht.lt;have h21:=h0.Bl_;have hcl:=h0.cl;have hB21:=h0.B21;have hs:((w.alloc (.cells #[.int .i64 0,.int .i64 0,.int .u64 0] 33)).alloc (.cells (stV s.pc s.xs s.ha s.hn).toArray 47)).heap.size=w.heap.size+2:=by simp
 generalize (w.alloc (.cells #[.int .i64 0,.int .i64 0,.int .u64 0] 33)).alloc (.cells (stV s.pc s.xs s.ha s.hn).toArray 47)=V at *;refine ⟨b0,⟨b1,h.regs.len⟩,h.ht.bl k0,⟨h0.ms.gap k0 w.heap.size V.heap.size (zzr _),h0.cch.bl k0,h0.tabs.bl k0,h0.al,zAS hl1 (Nat.le_succ _),zAu h0.nc,zAu h0.nB,by omega,by omega,by omega,by omega,h0.B21,by omega,fun g hg=>zAu (h0.t21 g hg)⟩,k0⟩
structure HoZ (T:Nat→Prop) (w:World) (hi hb sb cb B n:Nat) (on:Bool) (s s':St) (k:Int) (L:List Rg) (M st:Nat→Int) (mo ba en:Int) (Z:World):Prop where
 res:Z.heap[w.heap.size]?=some (.cells #[.int .i64 0,.int .i64 0,.int .u64 0] 33 (0,0))
 nxt:k=0→StAt Z (w.heap.size+1) s'.pc s'.xs s'.ha s'.hn
 ht:HtAt Z hb s.pc s.xs s.ha s.hn sb cb
 ms:MS (gap T w.heap.size hi) Z sb n L M st mo ba en
 cch:Cch on sb L M st Z cb B
 fr:Fr (fun x=>T x∨x=hb∨x=B) w Z
 hi_:w.heap.size+1<hi
variable {V Z w2 w8 w9:World}
theorem HoZ.alloc {hi:Nat} {s':St} {k:Int} (h:HoZ T w hi hb sb cb B n on s s' k L M st mo ba en Z) (o:Obj):HoZ T w hi hb sb cb B n on s s' k L M st mo ba en (Z.alloc o):=
 ⟨(Bl.new _ _).at_ h.res,fun e=>(h.nxt e).bl (Bl.new _ _),h.ht.bl (Bl.new _ _),h.ms.bl (Bl.new _ _),h.cch.bl (Bl.new _ _),h.fr.trans (Fr.zP (Bl.new _ _)),h.hi_⟩
theorem HoZ.set {hi f:Nat} {s':St} {k:Int} (h:HoZ T w hi hb sb cb B n on s s' k L M st mo ba en Z) (hf:w.heap.size+1<f) (hf2:f<hi) (hb_:hb<w.heap.size) (hc:cb<w.heap.size) (hB:B<w.heap.size) (j:Nat) (u:Value):HoZ T w hi hb sb cb B n on s s' k L M st mo ba en (Z.setCell ⟨f,j,none⟩ u):=by
 have k0:Fr (only f) Z (Z.setCell ⟨f,j,none⟩ u):=Fr.set (S:=only f) (p:=⟨f,j,none⟩) rfl _;exact ⟨k0.at_ h.res (fun e=>by have e3:w.heap.size=f:=e;omega),fun e=>(h.nxt e).fr k0 (fun e=>by have e3:w.heap.size+1=f:=e;omega),h.ht.fr k0 (fun e=>by have e3:hb=f:=e;omega),h.ms.kept k0 (fun b e e2=>e.2 (by have e3:b=f:=e2;omega)),h.cch.fr k0 (fun e=>by have e3:cb=f:=e;omega) (fun e=>by have e3:B=f:=e;omega),h.fr.zH (p:=⟨f,j,none⟩) (by show w.heap.size≤f;omega) _,h.hi_⟩
variable {M' M1 st':Nat→Int}
theorem hoz_of {X:World} {s':St} {k:Int} (hlt:hb<w.heap.size) (hbT:¬ T hb) (hbB:hb≠B) (h:HoV T w hb sb cb B n on s L M st mo ba en V) (kX:Bl V X) (hm:MS (gap T w.heap.size X.heap.size) w2 sb (n+9) L M' st' mo ba en) (hc:Cch on sb L M' st' w2 cb B) (hst:k=0→StAt w2 (w.heap.size+1) s'.pc s'.xs s'.ha s'.hn) (f:Fr (fun x=>gap T w.heap.size X.heap.size x∨x=w.heap.size+1∨x=B) X w2) (hBl:B<w.heap.size):
  HoZ T w X.heap.size hb sb cb B (n+9) on s s' k L M' st' mo ba en w2:=by
 have h1:=zG h.nxt.blk;have h2:=kX.size;have nR:∀ x,x<X.heap.size→w.heap.size≤x→x≠w.heap.size+1→¬ (gap T w.heap.size X.heap.size x∨x=w.heap.size+1∨x=B):=fun x g1 g2 g3 e=>by
  rcases e with e|e|e
  ·exact zAS g1 g2 e
  ·exact g3 e
  ·omega
 refine ⟨f.at_ (kX.at_ h.res) (nR _ (by omega) (zzr _) (by omega)),hst,(h.ht.bl kX).fr f (fun e=>by
  rcases e with e|e|e
  ·exact hbT e.1
  ·omega
  ·exact hbB e),hm,hc,?_,by omega⟩
 have f2:Fr (fun x=>(T x∨x=hb∨x=B)∨x=w.heap.size+1) w w2:=(Fr.zP (h.bl.trans kX)).trans (f.mono fun x _ e=>by
  rcases e with e|e|e
  ·exact .inl (.inl e.1)
  ·exact .inr e
  ·exact .inl (.inr (.inr e)))
 exact ⟨f2.os,f2.tape,f2.output,f2.size,fun x hx hn'=>f2.block x hx (fun e=>by
  rcases e with e|e
  ·exact hn' e
  ·omega)⟩
variable {b:Nat} {v0 v1:Value}
theorem zKR {i3 i4:Nat} (k:zi b b w8 w9) (h:w8.cell? ⟨b,i3,none⟩=some v0∧w8.cell? ⟨b,i4,none⟩=some v1):
  w9.cell? ⟨b,i3,none⟩=some v0∧w9.cell? ⟨b,i4,none⟩=some v1:=⟨k _ _ h.1 (.inl rfl),k _ _ h.2 (.inl rfl)⟩
theorem zFM (V:World) (o:Obj):V.heap.size<(V.alloc o).drew.heap.size:=by show V.heap.size<(V.alloc o).heap.size;simp
theorem base_bl {X:World} (h:Base (gap T w.heap.size V.heap.size) V b sb cb B n on L M st mo ba en) (k:Bl V X):Base (gap T w.heap.size X.heap.size) X b sb cb B n on L M st mo ba en:=by
 have hs:=k.size;refine ⟨(h.ms.gap k V.heap.size X.heap.size (zzr _)).among (fun x hx e=>⟨e.1.1,fun e2=>?_⟩),h.cch.bl k,h.tabs.bl k,h.al,fun e=>h.nb ⟨e.1,fun e2=>e.2 ⟨e2.1,by omega⟩⟩,fun e=>h.nc ⟨e.1,fun e2=>e.2 ⟨e2.1,by omega⟩⟩,fun e=>h.nB ⟨e.1,fun e2=>e.2 ⟨e2.1,by omega⟩⟩,h.bc,h.bB,Nat.lt_of_lt_of_le h.cl hs,Nat.lt_of_lt_of_le h.Bl_ hs,h.B21,h.b21,fun g hg e=>h.t21 g hg ⟨e.1,fun e2=>e.2 ⟨e2.1,by omega⟩⟩⟩;rcases Nat.lt_or_ge x V.heap.size with h1|h1
 ·exact e.1.2 ⟨e2.1,h1⟩
 ·exact e.2 ⟨h1,e2.2⟩
theorem hoz_no {hi x:Nat} (hlt:hb<w.heap.size) (hB:B<w.heap.size) (h:w.heap.size+1<x) (h2:x<hi):¬ (gap T w.heap.size hi x∨x=w.heap.size+1∨x=B):=fun e=>by
 rcases e with e|e|e
 ·exact zAS h2 (by omega) e
 ·omega
 ·omega
variable {fa fk:Int} {i:Td.Ins}
theorem do_zero {k:Int} {s1:St} (h:DoIs L M s i k fk fa s1 M1) (hk:k=0):fk=0∧fa=0:=by
 cases h with
 | atomBad o N h hf h0=>exact absurd hk h0
 | atomOk o N h hf h0=>exact zFc hf h0
 | _=>first|exact ⟨rfl,rfl⟩|(exact absurd hk (by decide))
theorem zJG {k:Int} {s1:St} (h:zBT L M s k fk fa s1 M1) (hk:k=0):fk=0∧fa=0:=by
 cases h with
 | bad A h1 h2=>exact absurd hk h2
 | go A _ _ _ _ _ h1 h2 h3=>exact do_zero h3 hk
theorem zDE {Y X:World} (f:Fr (fun x=>T x∨x=hb∨x=B) w Z) (g:Fr (only hb) Z Y) (k:Fr (only w.heap.size) Y X):Fr (fun x=>T x∨x=hb∨x=B) w X:=by
 have h1:Fr (fun x=>(T x∨x=hb∨x=B)∨x=w.heap.size) w X:=((f.mono fun x _ e=>.inl e).trans (g.mono fun x _ e=>.inl (.inr (.inl e)))).trans (k.mono fun x _ e=>.inr e);exact ⟨h1.os,h1.tape,h1.output,h1.size,fun x hx hn'=>h1.block x hx (fun e=>by
  rcases e with e|e
  ·exact hn' e
  ·omega)⟩
theorem zFD {hi:Nat} {s' s2:St} {k:Int} {Y X:World} (hlt:hb<w.heap.size) (hmi:zBT L M s k fk fa s2 M') (h:Mach T w hb sb cb B n on s L M st mo ba en) (hz:HoZ T w hi hb sb cb B (n+9) on s s' k L M' st' mo ba en Z) (g:Fr (only hb) Z Y) (k7:Fr (only w.heap.size) Y X) (ht:HtAt Y hb s2.pc s2.xs s2.ha s2.hn sb cb):Mach T X hb sb cb B (n+9) on s2 L M' st' mo ba en:=by
 have h0:=h.base;have hcl:=h0.cl;have hBl:=h0.Bl_;have hfr:=zDE hz.fr g k7;obtain ⟨r1,r2⟩:=hmi.keep h0.ms.by_ h.regs h.pcb;have nhb:¬ only w.heap.size hb:=fun e=>by have e3:hb=w.heap.size:=e;omega
 refine ⟨ht.fr k7 nhb,r1,r2,⟨((hz.ms.kept g (fun x e e2=>h0.nb (by rw [← show x=hb from e2];exact e.1))).kept k7 (fun x e e2=>e.2 (by have e3:x=w.heap.size:=e2;have:=hz.hi_;omega))).zBW,(hz.cch.fr g (fun e=>h0.bc (Eq.symm e)) (fun e=>h0.bB (Eq.symm e))).fr k7 (fun e=>by have e3:cb=w.heap.size:=e;omega) (fun e=>by have e3:B=w.heap.size:=e;omega),h0.tabs.fr hfr (fun x hx e=>?_),h0.al,h0.nb,h0.nc,h0.nB,h0.bc,h0.bB,Nat.lt_of_lt_of_le hcl hfr.size,Nat.lt_of_lt_of_le hBl hfr.size,h0.B21,h0.b21,h0.t21⟩⟩;have h5:=h0.b21;have h6:=h0.B21;rcases e with e|e|e
 ·exact h0.t21 x hx e
 ·omega
 ·omega
theorem hstep_any (h:Mach T w hb sb cb B n on s L M st mo ba en) (hn0:n<80000000) (hT:∀ b,w.heap.size≤b→T b) :
  Calls prog 11 #[zB hb] w (HartPost T w hb sb cb B n on s L M st mo ba en):=by
 have hv:=hov_of h;have K0:=hid (Bl.new w (.cells #[.int .i64 0,.int .i64 0,.int .u64 0] 33));have hld:=(h.ht.bl K0.out).load;have hsn:=zCY (w.alloc (.cells #[.int .i64 0,.int .i64 0,.int .u64 0] 33)) s.pc s.xs s.ha s.hn h.regs.len;rw [show (w.alloc (.cells #[.int .i64 0,.int .i64 0,.int .u64 0] 33)).heap.size=w.heap.size+1 by simp] at hsn;have HV:=hid hv;clear hv;have H:=hid h;clear h;have HT:=hid hT;clear hT;have HN0:=hid hn0;clear hn0;unfold zB;go_enter func11,ntmps11;go_upto_region 4 with (first
  | (refine wplL _ rfl (.tmp 10) 47 rfl _ _ rfl hld ?_)
  | (refine wplS _ rfl (.tmp 3) (.tmp 11) 47 rfl _ _ rfl rfl hsn ?_)
  | go_in)
 (try simp only [Act.put])
 have hlt:=H.out.ht.lt;have CS:=hid (fun X (kX:Bl ((w.alloc (.cells #[.int .i64 0,.int .i64 0,.int .u64 0] 33)).alloc (.cells (stV s.pc s.xs s.ha s.hn).toArray 47)) X)=>stepHa_any (HV.out.nxt.bl kX) H.out.regs H.out.pcb (base_bl HV.out.base kX) HN0.out (fun x hx=>⟨HT.out x (by have h1:=zG HV.out.nxt.blk;have h2:=kX.size;omega),fun e=>by have h2:=kX.size;omega⟩));generalize ((w.alloc (.cells #[.int .i64 0,.int .i64 0,.int .u64 0] 33)).alloc (.cells (stV s.pc s.xs s.ha s.hn).toArray 47))=V at *;unfold zB at CS;have hp0:=HV.out.ht.ptrs;unfold zB at hp0;have HS:=hid hp0;clear hp0;clear hld hsn K0
 go_region_held3 (fun w'=>w'.cell? ⟨hb,35,none⟩=some (.pointer (some ⟨sb,0,none⟩))∧w'.cell? ⟨hb,36,none⟩=some (.pointer (some ⟨cb,0,none⟩))) (first|(refine zKR (w8:=w4) ?_ hkk;((repeat' (first|with_reducible apply zi.rfl'|with_reducible apply zi.set_|with_reducible apply zi.alloc|with_reducible apply zi.drew))<;>(have h1:=zG HV.out.nxt.blk;omega)))|(refine zKR (w8:=V) ?_ HS.out;((repeat' (first|with_reducible apply zi.rfl'|with_reducible apply zi.set_|with_reducible apply zi.alloc|with_reducible apply zi.drew))<;>(have h1:=zG HV.out.nxt.blk;omega)))) (first
  | (go_at_call 30;with_reducible refine (CS.out V.drew (Bl.refl V).drew).mono ?_;rintro e w4 hh;unfold zEh at hh;obtain ⟨k,fk,fa,s',M',st',hmi,rfl,hm,hc,hst,hfr⟩:=hh;have HZ:=hid (hoz_of hlt H.out.base.nb H.out.base.bB HV.out (Bl.refl V).drew hm hc hst hfr H.out.base.Bl_);have hp4:=HZ.out.ht.ptrs;unfold zB at hp4;have hkk:=hp4;have hsz4:=zG HZ.out.ht.blk;(try unfold zAD))
  | (go_at_call 30;with_reducible refine (CS.out (V.alloc (.cells #[.int .i64 0,.int .i64 0,.int .u64 0] 33)).drew (Bl.new V (.cells #[.int .i64 0,.int .i64 0,.int .u64 0] 33)).drew).mono ?_;rintro e w4 hh;unfold zEh at hh;obtain ⟨k,fk,fa,s',M',st',hmi,rfl,hm,hc,hst,hfr⟩:=hh;have HZ:=hid (hoz_of hlt H.out.base.nb H.out.base.bB HV.out (Bl.new V (.cells #[.int .i64 0,.int .i64 0,.int .u64 0] 33)).drew hm hc hst hfr H.out.base.Bl_);have hp4:=HZ.out.ht.ptrs;unfold zB at hp4;have hkk:=hp4;have hsz4:=zG HZ.out.ht.blk;have FB:=hid (hfr.at_ (zU (zzn V (.cells #[.int .i64 0,.int .i64 0,.int .u64 0] 33))) (hoz_no hlt (H.out.base.Bl_) (zG HV.out.nxt.blk) (zFM V (.cells #[.int .i64 0,.int .i64 0,.int .u64 0] 33))));obtain ⟨q0,q1,q2⟩:=zD FB.out;have q3:=free_at FB.out;have hlB:=zG FB.out;(try unfold zAD)))
 ·have az:=HZ.out.alloc (.cells #[.int .i64 k,.int .i64 fk,.int .u64 fa] 33);have F2:Hid ((w4.alloc (.cells #[.int .i64 k,.int .i64 fk,.int .u64 fa] 33)).heap[w4.heap.size]?=some (.cells #[.int .i64 k,.int .i64 fk,.int .u64 fa] 33 (0,0))):=hid (zzn w4 (.cells #[.int .i64 k,.int .i64 fk,.int .u64 fa] 33));generalize w4.alloc (.cells #[.int .i64 k,.int .i64 fk,.int .u64 fa] 33)=Z at *;have HZ2:=hid az;clear az;have HMI:=hid hmi;clear hmi;clear hkk HZ CS HS hm hc hst hfr hp4 hsz4;obtain ⟨c0,c1,c2⟩:=zD F2.out;obtain ⟨e0,e1,e2⟩:=zD HZ2.out.res;have z1:=free_at HZ2.out.res;(try simp only [Exit.inBlock,Exit.then])
  by_cases hk:k=0
  ·subst hk;have hld3:=(HZ2.out.nxt rfl).load;have hl3:=(HZ2.out.nxt rfl).len;have hsn3:=HZ2.out.ht.store s'.pc s'.xs s'.ha s'.hn hl3;go_upto_region 9 with (first
    | (refine wplL _ rfl (.tmp 3) 47 rfl _ _ rfl hld3 ?_)
    | (refine wplS _ rfl (.tmp 33) (.tmp 31) 47 rfl _ _ rfl rfl hsn3 ?_)
    | go_in)
   obtain ⟨g1,g2⟩:=HZ2.out.ht.stored s'.pc s'.xs s'.ha s'.hn hl3;have G1:=hid g1;clear g1;have G2:=hid g2;clear g2;clear c0 c1 c2 e0 e1 e2 z1 hld3 hsn3;generalize Z.setCells hb 0 (stV s'.pc s'.xs s'.ha s'.hn)=Y at *;have R9:=hid (G2.out.at_ HZ2.out.res (fun e=>by have e3:w.heap.size=hb:=e;omega));obtain ⟨e0,e1,e2⟩:=zD R9.out;have z1:=free_at R9.out;(try simp only [Act.put])
   go_wp2_with fail;refine zzb (Td.zAk rfl _ _ w.heap.size rfl (set3 (.int .i64 0) (.int .i64 0) (.int .u64 0) R9.out) rfl) rfl ?_;have k7:Fr (only w.heap.size) Y (((Y.setCell ⟨w.heap.size,0,none⟩ (.int .i64 0)).setCell ⟨w.heap.size,1,none⟩ (.int .i64 0)).setCell ⟨w.heap.size,2,none⟩ (.int .u64 0)):=((Fr.set (S:=only w.heap.size) (p:=⟨w.heap.size,0,none⟩) rfl _).trans (Fr.set (S:=only w.heap.size) (p:=⟨w.heap.size,1,none⟩) rfl _)).trans (Fr.set (S:=only w.heap.size) (p:=⟨w.heap.size,2,none⟩) rfl _);have hz0:=zJG HMI.out rfl;exact ⟨0,0,0,s',M',st',by rw [hz0.1,hz0.2] at HMI;exact HMI.out,rfl,zFD hlt HMI.out H.out HZ2.out G2.out k7 G1.out,zDE HZ2.out.fr G2.out k7⟩
  ·have hk':=nin hk;obtain ⟨g0,g1⟩:=HZ2.out.ht.hold;have g2:=HZ2.out.ht.free;go_wp2_with fail;(try simp only [Exit.inBlock,Exit.then])
   have G1:=HZ2.out.ht.rest 0 0;have G2:Fr (only hb) Z ((Z.setCell ⟨hb,33,none⟩ (.int .u64 0)).setCell ⟨hb,34,none⟩ (.int .i64 0)):=(Fr.set (S:=only hb) (p:=⟨hb,33,none⟩) rfl _).trans (Fr.set (S:=only hb) (p:=⟨hb,34,none⟩) rfl _);have R9:=G2.at_ HZ2.out.res (fun e=>by have e3:w.heap.size=hb:=e;omega);generalize ((Z.setCell ⟨hb,33,none⟩ (.int .u64 0)).setCell ⟨hb,34,none⟩ (.int .i64 0))=Y at *;refine zzb (Td.zAk rfl _ _ w.heap.size rfl (set3 (.int .i64 k) (.int .i64 fk) (.int .u64 fa) R9) rfl) rfl ?_;have k7:Fr (only w.heap.size) Y (((Y.setCell ⟨w.heap.size,0,none⟩ (.int .i64 k)).setCell ⟨w.heap.size,1,none⟩ (.int .i64 fk)).setCell ⟨w.heap.size,2,none⟩ (.int .u64 fa)):=((Fr.set (S:=only w.heap.size) (p:=⟨w.heap.size,0,none⟩) rfl _).trans (Fr.set (S:=only w.heap.size) (p:=⟨w.heap.size,1,none⟩) rfl _)).trans (Fr.set (S:=only w.heap.size) (p:=⟨w.heap.size,2,none⟩) rfl _);obtain ⟨rfl,rfl⟩:=HMI.out.stop hk;exact ⟨k,fk,fa,s.rest,M',st',HMI.out,rfl,zFD hlt HMI.out H.out HZ2.out G2 k7 G1,zDE HZ2.out.fr G2 k7⟩
 ·have az:=((HZ.out.set (f:=V.heap.size) (by have:=zG HV.out.nxt.blk;omega) (zFM V (.cells #[.int .i64 0,.int .i64 0,.int .u64 0] 33)) hlt H.out.base.cl H.out.base.Bl_ 0 (.int .i64 k)).set (f:=V.heap.size) (by have:=zG HV.out.nxt.blk;omega) (zFM V (.cells #[.int .i64 0,.int .i64 0,.int .u64 0] 33)) hlt H.out.base.cl H.out.base.Bl_ 1 (.int .i64 fk)).set (f:=V.heap.size) (by have:=zG HV.out.nxt.blk;omega) (zFM V (.cells #[.int .i64 0,.int .i64 0,.int .u64 0] 33)) hlt H.out.base.cl H.out.base.Bl_ 2 (.int .u64 fa);have F2:Hid (((((w4.setCell ⟨V.heap.size,0,none⟩ (.int .i64 k)).setCell ⟨V.heap.size,1,none⟩ (.int .i64 fk)).setCell ⟨V.heap.size,2,none⟩ (.int .u64 fa))).heap[V.heap.size]?=some (.cells #[.int .i64 k,.int .i64 fk,.int .u64 fa] 33 (0,0))):=hid (set3 _ _ _ FB.out);generalize (((w4.setCell ⟨V.heap.size,0,none⟩ (.int .i64 k)).setCell ⟨V.heap.size,1,none⟩ (.int .i64 fk)).setCell ⟨V.heap.size,2,none⟩ (.int .u64 fa))=Z at *;have HZ2:=hid az;clear az;have HMI:=hid hmi;clear hmi;clear hkk HZ CS HS hm hc hst hfr hp4 hsz4;obtain ⟨c0,c1,c2⟩:=zD F2.out;obtain ⟨e0,e1,e2⟩:=zD HZ2.out.res;have z1:=free_at HZ2.out.res;(try simp only [Exit.inBlock,Exit.then])
  by_cases hk:k=0
  ·subst hk;have hld3:=(HZ2.out.nxt rfl).load;have hl3:=(HZ2.out.nxt rfl).len;have hsn3:=HZ2.out.ht.store s'.pc s'.xs s'.ha s'.hn hl3;go_upto_region 9 with (first
    | (refine wplL _ rfl (.tmp 3) 47 rfl _ _ rfl hld3 ?_)
    | (refine wplS _ rfl (.tmp 33) (.tmp 31) 47 rfl _ _ rfl rfl hsn3 ?_)
    | go_in)
   obtain ⟨g1,g2⟩:=HZ2.out.ht.stored s'.pc s'.xs s'.ha s'.hn hl3;have G1:=hid g1;clear g1;have G2:=hid g2;clear g2;clear c0 c1 c2 e0 e1 e2 z1 hld3 hsn3;generalize Z.setCells hb 0 (stV s'.pc s'.xs s'.ha s'.hn)=Y at *;have R9:=hid (G2.out.at_ HZ2.out.res (fun e=>by have e3:w.heap.size=hb:=e;omega));obtain ⟨e0,e1,e2⟩:=zD R9.out;have z1:=free_at R9.out;(try simp only [Act.put])
   go_wp2_with fail;refine zzb (Td.zAk rfl _ _ w.heap.size rfl (set3 (.int .i64 0) (.int .i64 0) (.int .u64 0) R9.out) rfl) rfl ?_;have k7:Fr (only w.heap.size) Y (((Y.setCell ⟨w.heap.size,0,none⟩ (.int .i64 0)).setCell ⟨w.heap.size,1,none⟩ (.int .i64 0)).setCell ⟨w.heap.size,2,none⟩ (.int .u64 0)):=((Fr.set (S:=only w.heap.size) (p:=⟨w.heap.size,0,none⟩) rfl _).trans (Fr.set (S:=only w.heap.size) (p:=⟨w.heap.size,1,none⟩) rfl _)).trans (Fr.set (S:=only w.heap.size) (p:=⟨w.heap.size,2,none⟩) rfl _);have hz0:=zJG HMI.out rfl;exact ⟨0,0,0,s',M',st',by rw [hz0.1,hz0.2] at HMI;exact HMI.out,rfl,zFD hlt HMI.out H.out HZ2.out G2.out k7 G1.out,zDE HZ2.out.fr G2.out k7⟩
  ·have hk':=nin hk;obtain ⟨g0,g1⟩:=HZ2.out.ht.hold;have g2:=HZ2.out.ht.free;go_wp2_with fail;(try simp only [Exit.inBlock,Exit.then])
   have G1:=HZ2.out.ht.rest 0 0;have G2:Fr (only hb) Z ((Z.setCell ⟨hb,33,none⟩ (.int .u64 0)).setCell ⟨hb,34,none⟩ (.int .i64 0)):=(Fr.set (S:=only hb) (p:=⟨hb,33,none⟩) rfl _).trans (Fr.set (S:=only hb) (p:=⟨hb,34,none⟩) rfl _);have R9:=G2.at_ HZ2.out.res (fun e=>by have e3:w.heap.size=hb:=e;omega);generalize ((Z.setCell ⟨hb,33,none⟩ (.int .u64 0)).setCell ⟨hb,34,none⟩ (.int .i64 0))=Y at *;refine zzb (Td.zAk rfl _ _ w.heap.size rfl (set3 (.int .i64 k) (.int .i64 fk) (.int .u64 fa) R9) rfl) rfl ?_;have k7:Fr (only w.heap.size) Y (((Y.setCell ⟨w.heap.size,0,none⟩ (.int .i64 k)).setCell ⟨w.heap.size,1,none⟩ (.int .i64 fk)).setCell ⟨w.heap.size,2,none⟩ (.int .u64 fa)):=((Fr.set (S:=only w.heap.size) (p:=⟨w.heap.size,0,none⟩) rfl _).trans (Fr.set (S:=only w.heap.size) (p:=⟨w.heap.size,1,none⟩) rfl _)).trans (Fr.set (S:=only w.heap.size) (p:=⟨w.heap.size,2,none⟩) rfl _);obtain ⟨rfl,rfl⟩:=HMI.out.stop hk;exact ⟨k,fk,fa,s.rest,M',st',HMI.out,rfl,zFD hlt HMI.out H.out HZ2.out G2 k7 G1,zDE HZ2.out.fr G2 k7⟩
end
section
variable {S:Nat→Prop} {mo b0 b1:Int} {w w':World} {rb:Nat} {P P':List Pg} {M:Nat→Int}
end
section
variable {S:Nat→Prop} {mo b0 b1:Int} {w:World} {rb:Nat} {P:List Pg} {M:Nat→Int}
theorem rp_set_no (h:RP S w rb P M mo b0 b1) (a:Nat) (ha:a<2^64) (c:Int) (hno:∀ q,¬ OnP P a q) :
  Calls prog 49 #[zB rb,.int .u64 (a:Int),.int .u8 c] w fun e w'=>e=.returned (.tuple #[])∧Bl w w':=by
 have ca:=rp_at h.space h.pgs (by have:=h.few;omega) ((a:Int)/4096);have CA:=hid ca;clear ca h;have haI:(a:Int)≤18446744073709551615:=by omega
 have haI0:(0:Int)≤(a:Int):=by omega
 have HNO:=hid hno;clear hno ha;unfold zB at *;go_enter func49,ntmps49;go_wp2_with fail;with_reducible refine CA.out.mono ?_
 rintro e w1 ⟨j,ok,rfl,hat,k⟩;have K:=hid k;clear k;rcases hat with ⟨rfl,x,hx,hn⟩|⟨rfl,hno⟩
 ·exact absurd (at_on (List.mem_of_getElem? hx) hn) (HNO.out _)
 ·clear hno;go_wp2
  first|go_end0|(refine zzb (results_none rfl _ _ _) rfl ?_)
  exact ⟨rfl,K.out⟩
theorem rp_set_rel (h:RP S w rb P M mo b0 b1) (a:Nat) (xs:List Int) (k:Nat) {M0:Nat→Int} (hp:zBU (regs P) M0 a xs k M) (hk:k<xs.length) (hb:∀ k,0≤xs.getD k 0∧xs.getD k 0≤255) (z:Int) (hz:z=((a+k:Nat):Int)) (hak:a+k<2^64) :
  Calls prog 49 #[zB rb,.int .u64 z,.int .u8 (xs.getD k 0)] w fun e w'=>e=.returned (.tuple #[])∧(∃ M',RP S w' rb P M' mo b0 b1∧zBU (regs P) M0 a xs (k+1) M')∧Fr S w w':=by
 subst hz;have hr:=fun (x:Nat) (q:Int)=>(zDl h.pgs (a:=(x:Int)) (q:=q))
 by_cases hon:∃ q,OnP P ((a+k:Nat):Int) q
 ·refine (rp_set h (a+k) hak (xs.getD k 0) (hb k) hon).mono ?_;rintro e w' ⟨rfl,h1,h2⟩;refine ⟨rfl,⟨_,h1,fun x=>?_⟩,h2⟩;simp only [upd];by_cases hx:x=a+k
  ·subst hx;rw [if_pos rfl];refine ⟨fun _=>by rw [Nat.add_sub_cancel_left],fun hn=>absurd ⟨by omega,by omega,?_⟩ hn⟩;obtain ⟨q,hq⟩:=hon;exact ⟨q,(hr _ _).2 hq⟩
  ·rw [if_neg hx];exact ⟨fun hc=>(hp x).1 ⟨hc.1,by omega,hc.2.2⟩,fun hn=>(hp x).2 fun hc=>hn ⟨hc.1,by omega,hc.2.2⟩⟩
 ·refine (rp_set_no h (a+k) hak (xs.getD k 0) (fun q hq=>hon ⟨q,hq⟩)).mono ?_;rintro e w' ⟨rfl,k1⟩;refine ⟨rfl,⟨M,h.bl k1,fun x=>?_⟩,Fr.zP k1⟩;by_cases hx:x=a+k
  ·subst hx;refine ⟨fun hc=>?_,fun hn=>(hp _).2 fun hc=>by omega⟩;obtain ⟨q,hq⟩:=hc.2.2;exact absurd ⟨q,(hr _ _).1 hq⟩ hon
  ·exact ⟨fun hc=>(hp x).1 ⟨hc.1,by omega,hc.2.2⟩,fun hn=>(hp x).2 fun hc=>hn ⟨hc.1,by omega,hc.2.2⟩⟩
theorem rp_lays_rel (h:RP S w rb P M mo b0 b1) (a:Nat) (A:Option Addr) (len cap:Nat) (xs:List Int) (hr:Rd w A xs) (hl:xs.length=len) (hb:∀ k,0≤xs.getD k 0∧xs.getD k 0≤255) (hA:0<len→∀ ad,A=some ad→¬ S ad.block)
  (hat:a+len≤274877906944) (hlen:len≤4194304) :
  Calls prog 27 #[zB rb,.int .u64 (a:Int),.slice A len cap] w fun e w'=>e=.returned (.tuple #[])∧(∃ M',RP S w' rb P M' mo b0 b1∧zBU (regs P) M a xs len M')∧Fr S w w':=by
 have HR:=hid hr;clear hr;have HL:=hid hl;clear hl;have HB:=hid hb;clear hb;have HAA:=hid hA;clear hA;have H:=hid h;clear h;have CS:=hid (fun W M' (h:RP S W rb P M' mo b0 b1) (k:Nat) (hp:zBU (regs P) M a xs k M') (hk:k<xs.length) (z:Int) (hz:z=((a+k:Nat):Int)) (hak:a+k<2^64)=>rp_set_rel h a xs k hp hk HB.out z hz hak);have hatI:(a:Int)+(len:Int)≤274877906944:=by omega
 have haI0:(0:Int)≤(a:Int):=by omega
 have HAT:=hid hat;clear hat hatI haI0;obtain ⟨Z,hZ⟩:∃ Z:Int,Z=a:=⟨_,rfl⟩;rw [← hZ];have HZ:=hid hZ;clear hZ;have hz0:0≤Z:=by have:=HZ.out;omega
 have hz1:Z≤274877906944:=by have:=HZ.out;have:=HAT.out;omega
 have hlenI:(len:Int)≤4194304:=by omega
 unfold zB at *;go_enter func27,ntmps27;go_wp2_with fail
 go_loopw [6] (fun i wr=>∃ k:Nat,k≤len∧i=.int .i64 k∧(∃ M',RP S wr rb P M' mo b0 b1∧zBU (regs P) M a xs k M')∧Fr S w wr) (fun i _=>len - (intOf i).toNat)
 case atStart=>exact ⟨0,by omega,rfl,⟨M,H.out,zBU.zero _ _ _ _⟩,Fr.refl _ _⟩
 case round =>
  obtain ⟨k,hk,rfl,⟨M',hrp,hpr⟩,hfr⟩:=hrel;have HRP:=hid hrp;clear hrp;have HPR:=hid hpr;clear hpr;have HFR:=hid hfr;clear hfr;by_cases hlt:k<len
  ·have hr2:=HR.out.fr HFR.out (fun h0=>HAA.out (by rw [← HL.out];exact h0));obtain ⟨b,off,hA,hcell⟩:=hr2.at_ k (by rw [HL.out];exact hlt);have hA2:=hA;subst hA;have cs:=fun (z:Int) (hz:z=((a+k:Nat):Int))=>CS.out wr M' HRP.out k HPR.out (by rw [HL.out];exact hlt) z hz (by have:=HAT.out;omega)
   have hx:=HB.out k;generalize xs.getD k 0=x at *;have CS2:=hid cs;clear cs;have hin:(k:Int)<(len:Int):=by omega
   have t1:decide (Z<274877906944)=true:=by have:=HAT.out;have:=HZ.out;simp;omega
   have t2:decide (Z+(k:Int)<274877906944)=true:=by have:=HAT.out;have:=HZ.out;simp;omega
   clear hr2 hA2;go_wp2_with fail;with_reducible refine (CS2.out (Z+(k:Int)) (by have:=HZ.out;omega)).mono ?_
   rintro e w1 ⟨rfl,h1,f1⟩;have H1:=hid h1;clear h1;have F1:=hid (HFR.out.trans f1);clear f1;go_wp2_with fail;refine ⟨⟨k+1,by omega,by go_num,H1.out,F1.out⟩,?_⟩;simp only [intOf];omega
  ·obtain rfl:k=len:=by omega
   go_wp2_with fail
   go_end0
   exact ⟨rfl,⟨M',HRP.out,HPR.out⟩,HFR.out⟩
theorem rp_fetch (h:RP S w rb P M mo b0 b1) (a:Nat) (ha:a<2^64) :
  Calls prog 52 #[zB rb,.int .u64 (a:Int)] w (zIU w (regs P) M a):=by
 have hfew:=h.few;by_cases hodd:(a:Int)%2=1
 ·have t1:((a:Int)%2==1)=true:=by simp [hodd]
  have HO:=hid hodd;clear hodd h;unfold zB;go_enter func52,ntmps52;go_wp2_with fail;refine zzb (zt31 rfl _ _ w.heap.size rfl (zzn w _) rfl) rfl ?_;exact ⟨0,3,a,rfl,.odd (by have:=HO.out;omega),Bl.new _ _⟩
 ·have t1:((a:Int)%2==1)=false:=by simp [hodd]
  have HE:Hid (a%2=0):=hid (by omega);clear hodd;have K0:=hid (Bl.new w (.cells #[.int .i64 0,.int .u64 0] 31));have hnb:=hid (zGX h.by_ a);have hnb4:Hid (0≤zb M a 4∧zb M a 4≤4294967295):=hid (by
   have h1:=zGX h.by_ a;have h2:=zGX h.by_ (a+2);rw [num42];omega)
  have cl:=zFA (h.bl K0.out) a 2 4 (by omega) (by omega) (by omega);have cl2:=fun W (k:Bl w W) (ht:a+2≤274877906944)=>zFA (h.bl k) ((a+2:Nat):Int) 2 4 (by omega) (by omega) (by omega)
  have cb0:=fun W (k:Bl w W) (m:Nat) (ht:a+m≤274877906944) (hm:m≤8)=>zIr (h.bl k) a m (by omega) (by omega)
  have cg0:=fun W B c (m:Nat) (hr:Rd W B (zf M a m)) (h1:1≤m) (h8:m≤8)=>zFq B m c _ m W hr (zT M a m) (by omega) h1 h8 (zCh h.by_ a m)
  have hso:=hid (zFj h.pgs);have cb4:=fun W k ht=>cb0 W k 4 ht (by omega)
  have cb:=fun W k ht=>cb0 W k 2 ht (by omega)
  have cg4:=fun W B c hr=>cg0 W B c 4 hr (by omega) (by omega)
  have cg:=fun W B c hr=>cg0 W B c 2 hr (by omega) (by omega)
  simp only [show ((2:Nat):Int)=2 from rfl,show ((4:Nat):Int)=4 from rfl] at cl cl2 cb cg cb4 cg4;clear cb0 cg0;have CB4:=hid cb4;have CG4:=hid cg4;have CL:=hid cl;have CL2:=hid cl2;have CB:=hid cb;have CG:=hid cg;clear cl cl2 cb cg cb4 cg4 h;have haI:(a:Int)≤18446744073709551615:=by omega
  have haI0:(0:Int)≤(a:Int):=by omega
  generalize regs P=L at *;unfold zB at *;go_enter func52,ntmps52;go_wp2_with fail;with_reducible refine CL.out.mono ?_
  rintro e w1 ⟨x,ok,rfl,hh,k⟩;have HB1:=hid (new2 w w1 _ _ _ k);have K1:=hid (K0.out.trans k);clear k CL;rcases hh with ⟨rfl,hh⟩|⟨rfl,hx,hh⟩
  ·have HH:=hid hh;clear hh;obtain ⟨d0,d1⟩:=zK HB1.out;have f0:∀ i,w1.frozen? ⟨w.heap.size,i,none⟩=false:=fun i=>by simp [World.frozen?,HB1.out]
   have f00:=f0 0;have f01:=f0 1;clear f0;go_wp2_with fail;refine zzb (zt31 rfl _ _ w.heap.size rfl (set2 _ _ HB1.out) rfl) rfl ?_;exact ⟨0,3,x,rfl,.bad1 x HE.out HH.out,(K1.out.set (zzr _) _).set (zzr _) _⟩
  ·have htop:=hid (zDG hso.out (n:=2) hh (by omega));have HH:=hid hh;clear hh hx;go_wp2_with fail;with_reducible refine (CB.out _ K1.out htop.out).mono ?_
   rintro e w2 ⟨B,c,rfl,hr2,k2⟩;have R2:=hid hr2;clear hr2;have HB2:=hid (k2.at_ HB1.out);have K2:=hid (K1.out.trans k2);clear k2;go_wp2_with fail;with_reducible refine (CG.out _ B c R2.out).mono ?_
   rintro e w' ⟨rfl,rfl⟩;have HN2:Hid (getS (zf M a 2) (min 2 2)=zb M a 2):=hid rfl;rw [HN2.out];obtain ⟨N2,hN2⟩:∃ N2,N2=zb M a 2:=⟨_,rfl⟩;rw [← hN2];rw [← hN2] at hnb;have HNN:=hid hN2;clear hN2;obtain ⟨n0,n1⟩:=hnb.out;by_cases h3:N2%4=3
   ·have t3:(N2%4 != 3)=false:=by simp [h3]
    have H3:=hid h3;clear h3;have e2:IntKind.u64.wrap ((a:Int)+2)=((a+2:Nat):Int):=by have:=htop.out;rw [zzu _ (by omega)];omega
    have E2:Hid ((a:Int)+2=((a+2:Nat):Int)):=hid (by omega);have a2:(a:Int)+2≤274877906944:=by have:=htop.out;omega
    clear e2;go_wp2_with fail;rw [E2.out];with_reducible refine (CL2.out _ K2.out htop.out).mono ?_
    rintro e w3 ⟨x3,ok3,rfl,hh3,k3⟩;have HB3:=hid (k3.at_ HB2.out);have K3:=hid (K2.out.trans k3);clear k3 CL2;rcases hh3 with ⟨rfl,hh3⟩|⟨rfl,hx3,hh3⟩
    ·have HH3:=hid hh3;clear hh3;obtain ⟨d0,d1⟩:=zK HB3.out;have f0:∀ i,w3.frozen? ⟨w.heap.size,i,none⟩=false:=fun i=>by simp [World.frozen?,HB3.out]
     have f00:=f0 0;have f01:=f0 1;clear f0;go_wp2_with fail;refine zzb (zt31 rfl _ _ w.heap.size rfl (set2 _ _ HB3.out) rfl) rfl ?_;exact ⟨0,3,x3,rfl,.bad2 x3 HE.out HH.out (by rw [← HNN.out];exact H3.out) HH3.out,(K3.out.set (zzr _) _).set (zzr _) _⟩
    ·have htop4:Hid (a+4≤274877906944):=hid (by have:=zDG hso.out (a:=a+2) (n:=2) hh3 (by omega);omega);have HH3:=hid hh3;clear hh3 hx3;go_wp2_with fail;with_reducible refine (CB4.out _ K3.out htop4.out).mono ?_
     rintro e w4 ⟨B4,c4,rfl,hr4,k4⟩;have R4:=hid hr4;clear hr4;have HB4:=hid (k4.at_ HB3.out);have K4:=hid (K3.out.trans k4);clear k4;go_wp2_with fail;with_reducible refine (CG4.out _ B4 c4 R4.out).mono ?_
     rintro e w' ⟨rfl,rfl⟩;have HN4:Hid (getS (zf M a 4) (min 4 4)=zb M a 4):=hid rfl;rw [HN4.out];obtain ⟨N4,hN4⟩:∃ N4,N4=zb M a 4:=⟨_,rfl⟩;rw [← hN4];rw [← hN4] at hnb4;have HNM:=hid hN4;clear hN4;obtain ⟨m0,m1⟩:=hnb4.out;obtain ⟨d0,d1⟩:=zK HB4.out;have f0:∀ i,w4.frozen? ⟨w.heap.size,i,none⟩=false:=fun i=>by simp [World.frozen?,HB4.out]
     have f00:=f0 0;have f01:=f0 1;clear f0;go_wp2_with fail;refine zzb (zt31 rfl _ _ w.heap.size rfl (set2 _ _ HB4.out) rfl) rfl ?_;exact ⟨_,0,0,rfl,by rw [HNM.out];exact .long HE.out HH.out HH3.out (by rw [← HNN.out];exact H3.out),(K4.out.set (zzr _) _).set (zzr _) _⟩
   ·have t3:(N2%4 != 3)=true:=by simp [h3]
    have H3:=hid h3;clear h3;obtain ⟨d0,d1⟩:=zK HB2.out;have f0:∀ i,w2.frozen? ⟨w.heap.size,i,none⟩=false:=fun i=>by simp [World.frozen?,HB2.out]
    have f00:=f0 0;have f01:=f0 1;clear f0;go_wp2_with fail;refine zzb (zt31 rfl _ _ w.heap.size rfl (set2 _ _ HB2.out) rfl) rfl ?_;exact ⟨_,0,0,rfl,by rw [HNN.out];exact .short HE.out HH.out (by rw [← HNN.out];exact H3.out),(K2.out.set (zzr _) _).set (zzr _) _⟩
end
end Go.Proofs.YtlhpodholnfppaaGreatDoor
namespace Go.Proofs.YtlhpodholnfppaaGreatDoor
open Go.RowKit Go.ChangeShapes Go.WideShapes Go.Deep
structure BytesIn (w:World) (A:Option Addr) (l c:Nat) (xs:List Int):Prop where
 rd:Rd w A xs
 len:xs.length=l
 cap:l≤c
 nil:A=none→c=0
 bd:∀ k,0≤xs.getD k 0∧xs.getD k 0≤255
 lt:0<l→∀ ad,A=some ad→ad.block<w.heap.size
 le:l≤9223372036854775807
variable {base fuel:Nat} {w:World}
theorem open_bytesIn {H:Type} {enc:TypeId × Value→H} {spare:Nat→Bool} {held:Bool} {v:Value} {x:DataW H × List MemPlace} (h:DataW.trod enc Tryz.prog w base spare held fuel 22 [v]=some x):
  ∃ A l c xs,v=.slice A l c∧BytesIn w A l c xs:=by
 rcases open_slice Tryz.underlying22 h with ⟨h1,_⟩|⟨ad,l,c,m,n,D,Pl,h1,h2,h3,h4,h5,h6,h7⟩
 ·injection h1 with h1;subst h1;exact ⟨none,0,0,[],rfl,Rd.nil_,rfl,zzr _,fun _=>rfl,fun k=>by simp,fun h=>absurd h (by omega),by omega⟩
 ·injection h1 with h1;subst h1;have hc5:Tryz.prog.cellsOf 5=1:=by kernel_rfl
  have hm:l≤m:=by rw [h5];split<;>omega
  have key:∀ k,k<l→∃ y:Int,w.cell? (ad.add k)=some (.int .u8 y)∧0≤y∧y≤255:=fun k hk=>by
   obtain ⟨cs,hcs,hts⟩:=h7 k (by omega);rw [hc5,Nat.mul_one] at hcs;obtain ⟨hlen,_,hat⟩:=World.cells?_some hcs
   match cs,hlen with
   | [u],_ =>
    obtain ⟨y,e0,hw⟩:=DataW.trod_int Tryz.underlying5 hts;cases e0;have h8:=hat 0 (by omega);refine ⟨y,by simpa [show (ad.add k).add 0=ad.add k from rfl] using h8,?_⟩;exact u8_in (hw.2)
  have hch:∃ f:Nat→Int,∀ k,k<l→w.cell? (ad.add k)=some (.int .u8 (f k))∧0≤f k∧f k≤255:=by
   refine ⟨fun k=>if hk:k<l then Classical.choose (key k hk) else 0,fun k hk=>?_⟩;simp only [dif_pos hk];exact Classical.choose_spec (key k hk)
  obtain ⟨f,hf⟩:=hch;refine ⟨some ad,l,c,(List.range l).map f,rfl,fun _=>⟨ad,rfl,fun i hi=>?_⟩,by simp,h3,(fun e=>by cases e),fun k=>?_,fun h0 ad' e=>?_,by simp only [maxLen] at h4;omega⟩
  ·have hi2:i<l:=by simpa using hi
   rw [(hf i hi2).1];simp [List.getD,hi2]
  ·by_cases hk:k<l
   ·have:=hf k hk
    simp [List.getD,hk,this.2]
   ·simp [List.getD,hk]
  ·cases e;have h1:=block_lt_of_cell (hf 0 h0).1
   rwa [add_block] at h1
end Go.Proofs.YtlhpodholnfppaaGreatDoor
namespace Go.Proofs.YtlhpodholnfppaaGreatDoor
open Go.Proofs.Tryz
open Go.RowKit
def l1:List Rg:=[⟨65536,73728,7⟩]
def l2:List Rg:=[⟨65536,73728,7⟩,⟨131072,139264,3⟩]
def l3:List Rg:=[⟨65536,73728,7⟩,⟨131072,139264,3⟩,⟨139264,143360,1⟩]
theorem zKP:Rs l1:=⟨⟨by decide,fun r hr=>by simp only [l1,List.mem_cons,zzm,or_false] at hr;subst hr;decide⟩,fun r hr=>by simp only [l1,List.mem_cons,zzm,or_false] at hr;subst hr;decide⟩
theorem zKO:Rs l2:=⟨⟨by decide,fun r hr=>by simp only [l2,List.mem_cons,zzm,or_false] at hr;rcases hr with rfl|rfl<;>decide⟩,fun r hr=>by simp only [l2,List.mem_cons,zzm,or_false] at hr;rcases hr with rfl|rfl<;>decide⟩
theorem l3_rs:Rs l3:=⟨⟨by decide,fun r hr=>by simp only [l3,List.mem_cons,zzm,or_false] at hr;rcases hr with rfl|rfl|rfl<;>decide⟩,fun r hr=>by simp only [l3,List.mem_cons,zzm,or_false] at hr;rcases hr with rfl|rfl|rfl<;>decide⟩
variable {K S U:Nat→Prop} {V w w' w0 wr:World}
theorem zKc {a b:World} (hb:Bl w a) (f:Fr U a b) (hU:∀ q,q<w.heap.size→¬ U q):Bl w b:=
 ⟨f.os.trans hb.os,f.tape.trans hb.tape,f.output.trans hb.output,Nat.le_trans hb.size f.size,fun q hq=>(f.block q (Nat.lt_of_lt_of_le hq hb.size) (hU q hq)).trans (hb.block q hq)⟩
theorem zKS (x q:Int):¬ In [] x q:=fun ⟨r,hr,_⟩=>by cases hr
theorem zCt (r:Rg) (L:List Rg) (x q:Int):In (r :: L) x q↔(r.s≤x∧x<r.e∧q=r.p)∨In L x q:=by
 constructor
 ·rintro ⟨r',hr,h1,h2,h3⟩;rcases List.mem_cons.1 hr with rfl|hr
  ·exact .inl ⟨h1,h2,h3.symm⟩
  ·exact .inr ⟨r',hr,h1,h2,h3⟩
 ·rintro (⟨h1,h2,rfl⟩|⟨r',hr,h⟩)
  ·exact ⟨r,List.mem_cons_self ..,h1,h2,rfl⟩
  ·exact ⟨r',List.mem_cons_of_mem _ hr,h⟩
theorem lay_l1:layL [] ((65536:Nat):Int) ((73728:Nat):Int) [⟨((65536:Nat):Int),((73728:Nat):Int),7⟩]=l1:=by
 have hs:Span ((65536:Nat):Int) ((73728:Nat):Int):=⟨by omega,by omega,by omega,by omega⟩;refine (Rs.nil.lay (by omega) hs).eq zKP fun x q=>?_
 rw [zJI Rs.nil (by omega) hs,l1,zCt]
 have:=zKS x q
 simp only [this,or_false,and_false];omega
theorem lay_l2:layL l1 ((131072:Nat):Int) ((139264:Nat):Int) [⟨((131072:Nat):Int),((139264:Nat):Int),3⟩]=l2:=by
 have hs:Span ((131072:Nat):Int) ((139264:Nat):Int):=⟨by omega,by omega,by omega,by omega⟩;refine (zKP.lay (by omega) hs).eq zKO fun x q=>?_
 rw [zJI zKP (by omega) hs,l1,l2,zCt,zCt,zCt]
 have:=zKS x q
 simp only [this,or_false];omega
theorem lay_l3:layL l2 ((139264:Nat):Int) ((143360:Nat):Int) [⟨((139264:Nat):Int),((143360:Nat):Int),1⟩]=l3:=by
 have hs:Span ((139264:Nat):Int) ((143360:Nat):Int):=⟨by omega,by omega,by omega,by omega⟩;refine (zKO.lay (by omega) hs).eq l3_rs fun x q=>?_
 rw [zJI zKO (by omega) hs,l2,l3,zCt,zCt,zCt,zCt,zCt]
 have:=zKS x q
 simp only [this,or_false];omega
section
variable {K:Nat→Prop} {w w':World} {sb rb n:Nat} {L L2 L':List Rg} {M M2 st:Nat→Int} {mo:Int}
theorem hmap (h:Two K w sb rb n L zM st 20 0 0 L2 zM) (a b:Nat) (p:Int) (z:Int) (hp:0≤p∧p≤7) (hs:Span (a:Int) (b:Int)) (hb:(b:Int)=a+z) (hz:z%4096=0) (hn:n<70000000)
  (hl:layL L a b [⟨a,b,p⟩]=L') (hlen:L'.length≤256) (ht:tot L'≤81920) :
  Calls prog 24 #[zB sb,.int .u64 (a:Int),.int .u64 z,.int .i64 p,.bool true] w fun e w'=>(∃ v,e=.returned v)∧(∃ st',Two K w' sb rb (n+8192) L' zM st' 20 0 0 L2 zM)∧Fr (fun b=>¬ K b) w w':=by
 obtain ⟨T1,hm,hT,hcl⟩:=h.call1;obtain ⟨s1,s2,s3,s4⟩:=hs;refine (mmap_fixed hm a z p (by omega) (by omega) ⟨by omega,by omega,by omega,hp.1,hp.2⟩ (by omega) hT b (by rw [zzu _ (by omega)];omega)).mono ?_;rintro e w' ⟨r,rfl,hl'⟩;unfold zKl at hl';rw [hl] at hl';rcases hl' with ⟨rfl,_,_,_,_,_,st',h7,_,h9⟩|⟨_,hx,_⟩|⟨_,_,hx,_⟩
 ·rw [zIi] at h7;obtain ⟨g1,g2⟩:=hcl _ _ _ _ _ _ _ _ rfl rfl rfl h7 h9;exact ⟨⟨_,rfl⟩,⟨st',g1⟩,g2⟩
 ·exact absurd ⟨⟨s1,s2,s3,s4⟩,hp.1,hp.2⟩ hx
 ·omega
theorem hlay (h:Two K w sb rb n L2 M st 20 0 0 L zM) (a b:Nat) (p:Int) (hp:0≤p∧p≤7) (hs:Span (a:Int) (b:Int)) (hz:(b:Int)≤a+8192) (hr:Rs L) (htL:tot L≤40960) (hr':Rs L')
  (hl:layL L a b [⟨a,b,p⟩]=L') (hlen:L'.length≤256) (ht:tot L'≤81920) :
  Calls prog 25 #[zB rb,.int .u64 (a:Int),.int .u64 (b:Int),.int .i64 p] w fun e w'=>(∃ v,e=.returned v)∧Two K w' sb rb n L2 M st 20 0 0 L' zM∧Fr (fun b=>¬ K b) w w':=by
 obtain ⟨T2,P,hm,hreg,hT,hcl⟩:=h.call2;have hall:=zEA hm.pgs (by omega);have heq:∀ P',Pgs 67108864 P'→zKi P P' (a:Int) (b:Int) p→regs P'=L':=fun P' hp' hset=>by
  refine (zJq hp').eq hr' fun x q=>?_
  rw [zDl hp',hset x q,← hl,zJI hr (by omega) hs,← hreg,zDl hm.pgs]
 refine (rp_lay hm hT a b p hp hs).mono ?_;rintro e w' ⟨r,rfl,hl⟩;rcases hl with ⟨rfl,P',g1,g2,g3,g4⟩|⟨rfl,_,hno|⟨P',g1,g2,g3⟩⟩
 ·rw [zIi] at g1;have h8:=hcl _ _ _ g1 g3;rw [heq P' g1.pgs g2] at h8;exact ⟨⟨_,rfl⟩,h8⟩
 ·have h1:=zHQ P (a:Int) (b:Int);have h2:=hall.2.2.1;rw [hreg] at h2;obtain ⟨s1,s2,s3,s4⟩:=hs;omega
 ·rw [heq P' g1 g2] at g3;omega
theorem Two.c1 (h:Two K w sb rb n L M st 20 0 0 L2 M2):∃ T1,MS T1 w sb n L M st 20 0 0∧(∀ b,w.heap.size≤b→T1 b)∧(∀ b,K b→¬ T1 b)∧∀ w' n' L' M' st',MS T1 w' sb n' L' M' st' 20 0 0→Fr T1 w w'→Two K w' sb rb n' L' M' st' 20 0 0 L2 M2∧Fr (fun b=>¬ K b) w w':=by
 obtain ⟨T1,T2,P,h1,h2,h3,h4,h5,h6⟩:=h.ex;refine ⟨T1,h1,fun b hb=>(h6 b hb).1,fun b hb=>(h5 b hb).1,fun w' n' L' M' st' hm hf=>⟨?_,hf.mono fun b _ hT e=>(h5 b e).1 hT⟩⟩;have hs:=hf.size;refine ⟨T1,fun b=>T2 b∧(b<w.heap.size∨w'.heap.size≤b),P,hm,(h2.among fun b hb hT=>⟨hT,.inl hb⟩).kept hf (fun b hb e e2=>h4 b hb e2 e.1),h3,fun b hb e1 e2=>?_,fun b hb=>⟨(h5 b hb).1,fun e=>(h5 b hb).2 e.1⟩,fun b hb=>⟨(h6 b (by omega)).1,⟨(h6 b (by omega)).2,.inr hb⟩⟩⟩;rcases e2.2 with h7|h7
 ·exact h4 b h7 e1 e2.1
 ·omega
theorem Two.c2 (h:Two K w sb rb n L M st 20 0 0 L2 M2):∃ T2 P,RP T2 w rb P M2 20 0 0∧regs P=L2∧(∀ b,w.heap.size≤b→T2 b)∧(∀ b,K b→¬ T2 b)∧∀ w' P' M2',RP T2 w' rb P' M2' 20 0 0→Fr T2 w w'→Two K w' sb rb n L M st 20 0 0 (regs P') M2'∧Fr (fun b=>¬ K b) w w':=by
 obtain ⟨T1,T2,P,h1,h2,h3,h4,h5,h6⟩:=h.ex;refine ⟨T2,P,h2,h3,fun b hb=>(h6 b hb).2,fun b hb=>(h5 b hb).2,fun w' P' M2' hm hf=>⟨?_,hf.mono fun b _ hT e=>(h5 b e).2 hT⟩⟩;have hs:=hf.size;have g1:MS (fun b=>T1 b∧(b<w.heap.size∨w'.heap.size≤b)) w' sb n L M st 20 0 0:=by
  have g:=h1.among (U:=fun b=>T1 b∧b<w.heap.size) fun b hb hT=>⟨hT,hb⟩
  have g2:=g.kept hf (fun b e e2=>h4 b e.2 e.1 e2);exact g2.among fun b hb e=>⟨e.1,.inl e.2⟩
 refine ⟨fun b=>T1 b∧(b<w.heap.size∨w'.heap.size≤b),T2,P',g1,hm,rfl,fun b hb e1 e2=>?_,fun b hb=>⟨fun e=>(h5 b hb).1 e.1,(h5 b hb).2⟩,fun b hb=>⟨⟨(h6 b (by omega)).1,.inr hb⟩,(h6 b (by omega)).2⟩⟩;rcases e1.2 with h7|h7
 ·exact h4 b h7 e1.1 e2
 ·omega
theorem Two.frX (h:Two K w sb rb n L M st 20 0 0 L2 M2) (hf:Fr U w w') (hU:∀ b,b<w.heap.size→U b→K b):Two (fun b=>K b∨(w.heap.size≤b∧b<w'.heap.size)) w' sb rb n L M st 20 0 0 L2 M2:=by
 obtain ⟨T1,T2,P,h1,h2,h3,h4,h5,h6⟩:=h.ex;have hs:=hf.size;have g1:MS (fun b=>T1 b∧(b<w.heap.size∨w'.heap.size≤b)) w' sb n L M st 20 0 0:=
  ((h1.among (U:=fun b=>T1 b∧b<w.heap.size) fun b hb hT=>⟨hT,hb⟩).kept hf (fun b e e2=>(h5 b (hU b e.2 e2)).1 e.1)).among fun b hb e=>⟨e.1,.inl e.2⟩
 refine ⟨fun b=>T1 b∧(b<w.heap.size∨w'.heap.size≤b),fun b=>T2 b∧(b<w.heap.size∨w'.heap.size≤b),P,g1,(h2.among fun b hb hT=>⟨hT,.inl hb⟩).kept hf (fun b hb e e2=>(h5 b (hU b hb e2)).2 e.1),h3,fun b hb e1 e2=>?_,fun b hb=>?_,fun b hb=>⟨⟨(h6 b (by omega)).1,.inr hb⟩,⟨(h6 b (by omega)).2,.inr hb⟩⟩⟩
 ·rcases e1.2 with h7|h7
  ·exact h4 b h7 e1.1 e2.1
  ·omega
 ·rcases hb with hb|hb
  ·exact ⟨fun e=>(h5 b hb).1 e.1,fun e=>(h5 b hb).2 e.1⟩
  ·exact ⟨fun e=>by rcases e.2 with h7|h7<;>omega,fun e=>by rcases e.2 with h7|h7<;>omega⟩
variable {xs:List Int} {A:Option Addr}
theorem hput1 (h:Two K w sb rb n l3 zM st 20 0 0 l3 zM) {l c:Nat} (hb:BytesIn w A l c xs) (hK:0<l→∀ ad,A=some ad→K ad.block) (hl:l≤8000) (hn:n<8000000):
  Calls prog 26 #[zB sb,.int .u64 65536,.slice A l c] w fun e w'=>e=.returned (.tuple #[])∧(∃ M' st',Two K w' sb rb (n+48000) l3 M' st' 20 0 0 l3 zM∧zBU l3 zM 65536 xs l M')∧Fr (fun b=>¬ K b) w w':=by
 obtain ⟨T1,hm,hT,hKT,hcl⟩:=h.c1;refine (mput_rel hm 65536 A l c xs hb.rd hb.len hb.cap hb.bd (fun h0 ad e=>hKT _ (hK h0 ad e)) (by omega) (by omega) (by omega) hT).mono ?_;rintro e w' ⟨rfl,M',st',g1,g2,g3,g4⟩;obtain ⟨q1,q2⟩:=hcl _ _ _ _ _ (g1.mono (by omega:n+6*l≤n+48000)) g4;exact ⟨rfl,⟨M',st',q1,g2⟩,q2⟩
variable {M' st':Nat→Int}
theorem hput2 (h:Two K w sb rb n l3 M' st' 20 0 0 l3 zM) {l c:Nat} (hb:BytesIn w A l c xs) (hK:0<l→∀ ad,A=some ad→K ad.block) (hl:l≤8000) (hp:zBU l3 zM 65536 xs l M'):
  Calls prog 27 #[zB rb,.int .u64 65536,.slice A l c] w fun e w'=>e=.returned (.tuple #[])∧Two K w' sb rb n l3 M' st' 20 0 0 l3 M'∧Fr (fun b=>¬ K b) w w':=by
 obtain ⟨T2,P,hm,hreg,hT,hKT,hcl⟩:=h.c2;refine (rp_lays_rel hm 65536 A l c xs hb.rd hb.len hb.bd (fun h0 ad e=>hKT _ (hK h0 ad e)) (by omega) (by omega)).mono ?_;rintro e w' ⟨rfl,⟨M2,g1,g2⟩,g3⟩;rw [hreg] at g2;obtain rfl:=g2.one hp;obtain ⟨q1,q2⟩:=hcl _ _ _ g1 g3;rw [hreg] at q1;exact ⟨rfl,q1,q2⟩
def valR (len:Nat) (rs:Nat→Int) (j:Nat):Int:=if j<len then rs j else 131072+8*j
def rg (len:Nat) (rs:Nat→Int) (i:Nat):List Int:=(List.range 32).map fun j=>if 1≤j∧j<i then valR len rs j else 0
theorem zJm (len:Nat) (rs:Nat→Int) (i:Nat):(rg len rs i).length=32:=by simp [rg]
theorem zHs (len:Nat) (rs:Nat→Int) (i k:Nat) (hk:k<32):(rg len rs i).getD k 0=if 1≤k∧k<i then valR len rs k else 0:=by
 simp [rg,zzd,hk]
theorem rg_one (len:Nat) (rs:Nat→Int):rg len rs 1=List.replicate 32 0:=by
 refine List.ext_getElem (by simp [rg]) fun k h1 h2=>?_
 rw [List.getElem_replicate];simp only [rg,List.getElem_map,List.getElem_range];rw [if_neg (by omega)]
theorem zHI (len:Nat) (rs:Nat→Int) (i:Nat) (h1:1≤i) (h2:i<32):(rg len rs i).set i (valR len rs i)=rg len rs (i+1):=by
 refine List.ext_getElem (by simp [rg]) fun k h3 h4=>?_
 rw [List.getElem_set];simp only [rg,List.getElem_map,List.getElem_range];by_cases e:i=k
 ·subst e;rw [if_pos rfl,if_pos ⟨h1,by omega⟩]
 ·rw [if_neg e];by_cases e1:1≤k∧k<i
  ·rw [if_pos e1,if_pos ⟨e1.1,by omega⟩]
  ·rw [if_neg e1,if_neg (by omega)]
theorem rg_set0 (len:Nat) (rs:Nat→Int) (i:Nat):(rg len rs i).set 0 0=rg len rs i:=by
 refine List.ext_getElem (by simp [rg]) fun k h3 h4=>?_
 rw [List.getElem_set]
 split
 ·rename_i e;subst e;simp [rg]
 ·rfl
theorem zIZ (len:Nat) (rs:Nat→Int) (i:Nat) (h:∀ j,j<len→0≤rs j∧rs j<18446744073709551616):Regs (rg len rs i):=by
 refine ⟨zJm ..,fun k=>?_,by rw [zHs _ _ _ _ (by decide)];rfl⟩;by_cases hk:k<32
 ·rw [zHs _ _ _ _ hk]
  split
  ·unfold valR
   split
   ·exact h k (by assumption)
   ·omega
  ·omega
 ·rw [zzd,List.getElem?_eq_none (by rw [zJm];omega)];simp
end
section
variable {w w':World} {hb rb:Nat} {pc at_ held:Int} {xs:List Int}
theorem HAt.bl' (h:HAt w hb rb pc xs at_ held) (k:Bl w w'):HAt w' hb rb pc xs at_ held:=⟨k.at_ h.blk,h.len⟩
theorem HAt.fr' (h:HAt w hb rb pc xs at_ held) (k:Fr U w w') (hn:¬ U hb):HAt w' hb rb pc xs at_ held:=⟨k.at_ h.blk hn,h.len⟩
theorem HAt.cell (h:HAt w hb rb pc xs at_ held) (i:Nat):w.cell? ⟨hb,i,none⟩=(zHW pc xs at_ held rb)[i]?:=by
 rw [zzc w hb _ _ _ (0,0) h.blk,List.getElem?_toArray]
theorem HAt.x (h:HAt w hb rb pc xs at_ held) (r:Nat) (hr:r<32):w.cell? ⟨hb,1+r,none⟩=some (.int .u64 (rx xs r)):=by
 have hl:=h.len;rw [h.cell];unfold zHW;rw [List.getElem?_append_left (by simp [hl];omega),Nat.add_comm 1 r,List.getElem?_cons_succ,List.getElem?_map,zzg (by omega)];unfold rx;rw [Int.toNat_natCast,zzd,zzg (by omega)]
 rfl
theorem HAt.zFg (h:HAt w hb rb pc xs at_ held) (r:Nat) (hr:r<32) (y:Int):HAt (w.setCell ⟨hb,1+r,none⟩ (.int .u64 y)) hb rb pc (xs.set r y) at_ held:=by
 have hl:=h.len;refine ⟨?_,by simp [hl]⟩;rw [zzs w hb (1+r) _ _ _ h.blk,List.setIfInBounds_toArray];unfold zHW;rw [List.set_append_left _ _ (by simp [hl];omega),Nat.add_comm 1 r,List.set_cons_succ,List.map_set]
theorem HAt.pcs (h:HAt w hb rb pc xs at_ held):w.cell? ⟨hb,0,none⟩=some (.int .u64 pc):=by rw [h.cell];rfl
theorem HAt.zCl (h:HAt w hb rb pc xs at_ held) (p:Int):HAt (w.setCell ⟨hb,0,none⟩ (.int .u64 p)) hb rb p xs at_ held:=by
 refine ⟨?_,h.len⟩;rw [zzs w hb 0 _ _ _ h.blk,List.setIfInBounds_toArray];rfl
end
theorem cnew_any (on:Bool) (sb:Nat) (L:List Rg) (M st:Nat→Int) (w:World):Calls prog 29 #[.bool on] w fun e w'=>∃ cb B,e=.returned (zB cb)∧Cch on sb L M st w' cb B∧Bl w w'∧w.heap.size≤cb∧cb<w'.heap.size∧w.heap.size≤B∧B<w'.heap.size:=by
 unfold Cch;cases on with
 | true =>
  refine (cnew_on w).mono ?_;rintro e w' ⟨rfl,h1,h2,h3⟩;exact ⟨_,_,rfl,by rw [if_pos rfl];exact ⟨_,_,h1,by omega,Inv.none_ _⟩,h2,by omega,by omega,by omega,by omega⟩
 | false =>
  refine (cnew_off w).mono ?_;rintro e w' ⟨rfl,h1,h2,h3⟩;exact ⟨_,w.heap.size,rfl,by rw [if_neg (by simp)];exact h1,h2,by omega,by omega,by omega,by omega⟩
def zEN (w:World) (a:Option Addr) (len:Nat) (rs:Nat→Int):Prop:=0<len→∃ b off,a=some ⟨b,off,none⟩∧b<w.heap.size∧∀ k,k<len→w.cell? ⟨b,off+k,none⟩=some (.int .u64 (rs k))
variable {M rs st:Nat→Int}
theorem zEN.bl {a:Option Addr} {len:Nat} (h:zEN w a len rs) (k:Bl w w'):zEN w' a len rs:=fun h0=>by
 obtain ⟨b,off,h1,h2,h3⟩:=h h0;exact ⟨b,off,h1,Nat.lt_of_lt_of_le h2 k.size,fun j hj=>k.cell' (h3 j hj)⟩
variable {xs:List Int} {A R:Option Addr}
theorem BytesIn.bl' {l c:Nat} (h:BytesIn w A l c xs) (k:Bl w w'):BytesIn w' A l c xs:=
 ⟨h.rd.below k,h.len,h.cap,h.nil,h.bd,fun h0 ad e=>Nat.lt_of_lt_of_le (h.lt h0 ad e) k.size,h.le⟩
structure Made (w0 w:World) (hb kb sb rb cb B n:Nat) (on:Bool) (rl:List Int) (M st:Nat→Int) (K:Nat→Prop):Prop where
 two:Two K w sb rb n l3 M st 20 0 0 l3 M
 old:∀ b,b<w0.heap.size→K b
 kh:K hb
 kk:K kb
 kc:K cb
 kB:K B
 ht:HtAt w hb 65536 rl 0 0 sb cb
 ha:HAt w kb rb 65536 rl 0 0
 cch:Cch on sb l3 M st w cb B
 lo:w0.heap.size≤hb∧w0.heap.size≤kb∧w0.heap.size≤cb∧w0.heap.size≤B
 ne:hb≠kb∧hb≠cb∧hb≠B∧kb≠cb∧kb≠B
 le:n≤200000
 lt:cb<w.heap.size∧B<w.heap.size
 bl:Bl w0 w
def MachinesPost (w0:World) (l:Nat) (xs rl:List Int) (on:Bool) (e:Ending) (w:World):Prop:=∃ hb kb sb rb cb B n M st K,e=.returned (.tuple #[zB hb,zB kb])∧zBU l3 zM 65536 xs l M∧Made w0 w hb kb sb rb cb B n on rl M st K
structure LpAt (w0:World) (sz hb kb tb sb rb cb B n:Nat) (on:Bool) (M st:Nat→Int) (KK:Nat→Prop) (ys zs:List Int) (wr:World):Prop where
 stt:StAt wr tb 65536 ys 0 0
 ha:HAt wr kb rb 65536 zs 0 0
 two:Two KK wr sb rb n l3 M st 20 0 0 l3 M
 cch:Cch on sb l3 M st wr cb B
 ht:HtAt wr hb 0 (List.replicate 32 0) 0 0 sb cb
 bl:Bl w0 wr
 size:wr.heap.size=sz
structure LpC (w0:World) (hb kb tb cb B:Nat) (KK:Nat→Prop):Prop where
 ne:tb≠kb∧tb≠hb∧tb≠cb∧tb≠B∧kb≠hb∧kb≠cb∧kb≠B
 kt:KK tb
 kk:KK kb
 lo:w0.heap.size≤tb∧w0.heap.size≤kb
section
variable {w0 wr:World} {sz hb kb tb sb rb cb B n:Nat} {on:Bool} {M st:Nat→Int} {KK:Nat→Prop} {ys zs:List Int}
theorem zKd {w0 wr:World} (h:Bl w0 wr) {p:Addr} (hp:w0.heap.size≤p.block) (u:Value):Bl w0 (wr.setCell p u):=((Fr.zP (S:=fun _=>False) h).zH hp u).bl (fun _ _ e=>e)
theorem LpAt.setT (h:LpAt w0 sz hb kb tb sb rb cb B n on M st KK ys zs wr) (c:LpC w0 hb kb tb cb B KK) (r:Nat) (hr:r<32) (y:Int):LpAt w0 sz hb kb tb sb rb cb B n on M st KK (ys.set r y) zs (wr.setCell ⟨tb,1+r,none⟩ (.int .u64 y)):=by
 obtain ⟨n1,n2,n3,n4,n5,n6,n7⟩:=c.ne;have f:Fr (only tb) wr (wr.setCell ⟨tb,1+r,none⟩ (.int .u64 y)):=Fr.set (S:=only tb) (p:=⟨tb,1+r,none⟩) rfl _;have hs:(wr.setCell ⟨tb,1+r,none⟩ (.int .u64 y)).heap.size=wr.heap.size:=by simp [World.setCell]
 exact ⟨h.stt.zFg r hr y,h.ha.fr' f (fun e=>n1 (Eq.symm e)),h.two.kept f (fun b _ e=>by rw [show b=tb from e];exact c.kt) hs,h.cch.fr f (fun e=>n3 (Eq.symm e)) (fun e=>n4 (Eq.symm e)),h.ht.fr f (fun e=>n2 (Eq.symm e)),zKd h.bl c.lo.1 _,by rw [hs];exact h.size⟩
theorem LpAt.setK (h:LpAt w0 sz hb kb tb sb rb cb B n on M st KK ys zs wr) (c:LpC w0 hb kb tb cb B KK) (r:Nat) (hr:r<32) (y:Int):LpAt w0 sz hb kb tb sb rb cb B n on M st KK ys (zs.set r y) (wr.setCell ⟨kb,1+r,none⟩ (.int .u64 y)):=by
 obtain ⟨n1,n2,n3,n4,n5,n6,n7⟩:=c.ne;have f:Fr (only kb) wr (wr.setCell ⟨kb,1+r,none⟩ (.int .u64 y)):=Fr.set (S:=only kb) (p:=⟨kb,1+r,none⟩) rfl _;have hs:(wr.setCell ⟨kb,1+r,none⟩ (.int .u64 y)).heap.size=wr.heap.size:=by simp [World.setCell]
 exact ⟨h.stt.fr f (fun e=>n1 e),h.ha.zFg r hr y,h.two.kept f (fun b _ e=>by rw [show b=kb from e];exact c.kk) hs,h.cch.fr f (fun e=>n6 (Eq.symm e)) (fun e=>n7 (Eq.symm e)),h.ht.fr f (fun e=>n5 (Eq.symm e)),zKd h.bl c.lo.2 _,by rw [hs];exact h.size⟩
theorem LpAt.drew (h:LpAt w0 sz hb kb tb sb rb cb B n on M st KK ys zs wr):LpAt w0 sz hb kb tb sb rb cb B n on M st KK ys zs wr.drew:=
 ⟨h.stt.bl (Bl.refl _).drew,h.ha.bl' (Bl.refl _).drew,h.two.kept (U:=fun _=>False) (Fr.zP (Bl.refl _).drew) (fun _ _ e=>e.elim) rfl,h.cch.bl (Bl.refl _).drew,h.ht.bl (Bl.refl _).drew,h.bl.drew,h.size⟩
end
variable {B cb g hb n rb rc rl sb y:Nat}
theorem zDA {l c:Nat} (w:World) (hbi:BytesIn w A l c xs) (hl:l≤8000) (hri:zEN w R rl rs) (hrl:rl≤9223372036854775807) (on:Bool):
  Calls prog 10 #[.slice A l c,.slice R rl rc,.bool on] w (MachinesPost w l xs (rg rl rs 32) on):=by
 have HBI:=hid hbi;clear hbi;have HRI:=hid hri;clear hri;have HL:=hid hl;clear hl;have hrlI:(rl:Int)≤9223372036854775807:=by omega
 clear hrl;go_enter func10,ntmps10;go_wp2_with fail;refine (mnew_any (fun b=>w.heap.size≤b) 20 _ (zzr _) (by omega) (by omega)).mono ?_;rintro e w1 ⟨rfl,h1,k1,s1⟩;have H1:=hid h1;clear h1;have K1:=hid k1;clear k1;have S1:=hid s1;clear s1;go_wp2_with fail;refine (rnewm_any 20 (by omega) (by omega) _).mono ?_;rintro e w2 ⟨rfl,h2,k2,s2⟩;have h3:=first_two H1.out K1.out S1.out h2 k2 s2;have H3:=hid h3;clear h3 h2 s2;have K2:=hid (K1.out.trans k2);clear k2 H1 K1;unfold zB;rw [S1.out];obtain ⟨sb,hsb⟩:∃ sb,sb=w.heap.size:=⟨_,rfl⟩;obtain ⟨rb,hrb⟩:∃ rb,rb=w.heap.size+1:=⟨_,rfl⟩;rw [← hrb,← hsb];rw [← hrb] at H3;obtain ⟨J,hJ⟩:∃ J:Nat→Prop,J=fun b=>b<w.heap.size:=⟨_,rfl⟩
 rw [← hJ,← hsb] at H3;have JB:Hid (∀ q,q<w.heap.size→J q):=hid (fun q hq=>by rw [hJ];exact hq);clear hJ hsb hrb S1;have c3:=hmap H3.out 65536 73728 7 8192 (by omega) ⟨by omega,by omega,by omega,by omega⟩ (by omega) (by omega) (by omega) lay_l1 (by decide) (by decide);unfold zB at c3;go_wp2_with fail;with_reducible refine (c3:Calls prog 24 #[.pointer (some ⟨sb,0,none⟩),.int .u64 65536,.int .u64 8192,.int .i64 7,.bool true] _ _).mono ?_
 rintro e w3 ⟨⟨v,rfl⟩,⟨st3,g3⟩,f3⟩;have H3a:=hid g3;clear g3;have K2a:=hid (zIM JB.out K2.out f3);clear f3 c3 H3 K2;have d3:=hlay H3a.out 65536 73728 7 (by omega) ⟨by omega,by omega,by omega,by omega⟩ (by omega) Rs.nil (by decide) zKP lay_l1 (by decide) (by decide);unfold zB at d3;go_wp2_with fail;with_reducible refine (d3:Calls prog 25 #[.pointer (some ⟨rb,0,none⟩),.int .u64 65536,.int .u64 73728,.int .i64 7] _ _).mono ?_
 rintro e w3b ⟨⟨v3,rfl⟩,g3,f3⟩;have H3b:=hid g3;clear g3;have K13:=hid (zIM JB.out K2a.out f3);clear f3 d3 H3a K2a;have c4:=hmap H3b.out 131072 139264 3 8192 (by omega) ⟨by omega,by omega,by omega,by omega⟩ (by omega) (by omega) (by omega) lay_l2 (by decide) (by decide);unfold zB at c4;go_wp2_with fail;with_reducible refine (c4:Calls prog 24 #[.pointer (some ⟨sb,0,none⟩),.int .u64 131072,.int .u64 8192,.int .i64 3,.bool true] _ _).mono ?_
 rintro e w4 ⟨⟨v,rfl⟩,⟨st4,g4⟩,f4⟩;have H4a:=hid g4;clear g4;have K13a:=hid (zIM JB.out K13.out f4);clear f4 c4 H3b K13;have d4:=hlay H4a.out 131072 139264 3 (by omega) ⟨by omega,by omega,by omega,by omega⟩ (by omega) zKP (by decide) zKO lay_l2 (by decide) (by decide);unfold zB at d4;go_wp2_with fail;with_reducible refine (d4:Calls prog 25 #[.pointer (some ⟨rb,0,none⟩),.int .u64 131072,.int .u64 139264,.int .i64 3] _ _).mono ?_
 rintro e w4b ⟨⟨v4,rfl⟩,g4,f4⟩;have H4b:=hid g4;clear g4;have K14:=hid (zIM JB.out K13a.out f4);clear f4 d4 H4a K13a;have c5:=hmap H4b.out 139264 143360 1 4096 (by omega) ⟨by omega,by omega,by omega,by omega⟩ (by omega) (by omega) (by omega) lay_l3 (by decide) (by decide);unfold zB at c5;go_wp2_with fail;with_reducible refine (c5:Calls prog 24 #[.pointer (some ⟨sb,0,none⟩),.int .u64 139264,.int .u64 4096,.int .i64 1,.bool true] _ _).mono ?_
 rintro e w5 ⟨⟨v,rfl⟩,⟨st5,g5⟩,f5⟩;have H5a:=hid g5;clear g5;have K14a:=hid (zIM JB.out K14.out f5);clear f5 c5 H4b K14;have d5:=hlay H5a.out 139264 143360 1 (by omega) ⟨by omega,by omega,by omega,by omega⟩ (by omega) zKO (by decide) l3_rs lay_l3 (by decide) (by decide);unfold zB at d5;go_wp2_with fail;with_reducible refine (d5:Calls prog 25 #[.pointer (some ⟨rb,0,none⟩),.int .u64 139264,.int .u64 143360,.int .i64 1] _ _).mono ?_
 rintro e w5b ⟨⟨v5,rfl⟩,g5,f5⟩;have H5b:=hid g5;clear g5;have K15:=hid (zIM JB.out K14a.out f5);clear f5 d5 H5a K14a;have H5b:Hid (Two J w5b sb rb 24576 l3 zM st5 20 0 0 l3 zM):=H5b;have cp:=hput1 H5b.out (HBI.out.bl' K15.out) (fun h0 ad e=>JB.out _ (HBI.out.lt h0 ad e)) HL.out (by omega);unfold zB at cp;go_wp2_with fail;with_reducible refine cp.mono ?_
 rintro e w6 ⟨rfl,⟨M,st6,g6,hpr⟩,f6⟩;have HPR:=hid hpr;clear hpr;have H6:=hid g6;clear g6;have K6:=hid (zIM JB.out K15.out f6);clear f6 cp H5b K15;have cq:=hput2 H6.out (HBI.out.bl' K6.out) (fun h0 ad e=>JB.out _ (HBI.out.lt h0 ad e)) HL.out HPR.out;unfold zB at cq;go_wp2_with fail;with_reducible refine cq.mono ?_
 rintro e w7 ⟨rfl,g7,f7⟩;have H7:=hid g7;clear g7;have K7:=hid (zIM JB.out K6.out f7);clear f7 cq H6 K6;go_wp2_with fail;with_reducible refine (cnew_any on sb l3 M st6 _).mono ?_
 rintro e w8 ⟨cb,B,rfl,hcc,k8,c1,c2,b1,b2⟩;have HCC:=hid hcc;clear hcc;have H8:=hid (H7.out.bl k8);have K8:=hid (K7.out.trans k8);have hs7:=K7.out.size;clear k8 H7;unfold zB;go_wp2_with fail;have cn:=hnew_any w8 sb cb;unfold zB at cn;with_reducible refine cn.mono ?_
 rintro e w9 ⟨rfl,hht,k9,s9⟩;have HHT:=hid hht;clear hht;have H9:=hid (H8.out.bl k9);have HC9:=hid (HCC.out.bl k9);have K9:=hid (K8.out.trans k9);clear k9 H8 HCC cn;go_upto_region 13 with (fail);have hX0:HAt (w9.alloc (.cells #[.int .u64 65536,.int .u64 0,.int .u64 0,.int .u64 0,.int .u64 0,.int .u64 0,.int .u64 0,.int .u64 0,.int .u64 0,.int .u64 0,.int .u64 0,.int .u64 0,.int .u64 0,.int .u64 0,.int .u64 0,.int .u64 0,.int .u64 0,.int .u64 0,.int .u64 0,.int .u64 0,.int .u64 0,.int .u64 0,.int .u64 0,.int .u64 0,.int .u64 0,.int .u64 0,.int .u64 0,.int .u64 0,.int .u64 0,.int .u64 0,.int .u64 0,.int .u64 0,.int .u64 0,.int .u64 0,.int .i64 0,.pointer (some ⟨rb,0,none⟩)] 74)) w9.heap.size rb 65536 (List.replicate 32 0) 0 0:=⟨zzn w9 (.cells (zHW 65536 (List.replicate 32 0) 0 0 rb).toArray 74),rfl⟩;have kX0:=Bl.new w9 (.cells #[.int .u64 65536,.int .u64 0,.int .u64 0,.int .u64 0,.int .u64 0,.int .u64 0,.int .u64 0,.int .u64 0,.int .u64 0,.int .u64 0,.int .u64 0,.int .u64 0,.int .u64 0,.int .u64 0,.int .u64 0,.int .u64 0,.int .u64 0,.int .u64 0,.int .u64 0,.int .u64 0,.int .u64 0,.int .u64 0,.int .u64 0,.int .u64 0,.int .u64 0,.int .u64 0,.int .u64 0,.int .u64 0,.int .u64 0,.int .u64 0,.int .u64 0,.int .u64 0,.int .u64 0,.int .u64 0,.int .i64 0,.pointer (some ⟨rb,0,none⟩)] 74)
 have sX0:(w9.alloc (.cells #[.int .u64 65536,.int .u64 0,.int .u64 0,.int .u64 0,.int .u64 0,.int .u64 0,.int .u64 0,.int .u64 0,.int .u64 0,.int .u64 0,.int .u64 0,.int .u64 0,.int .u64 0,.int .u64 0,.int .u64 0,.int .u64 0,.int .u64 0,.int .u64 0,.int .u64 0,.int .u64 0,.int .u64 0,.int .u64 0,.int .u64 0,.int .u64 0,.int .u64 0,.int .u64 0,.int .u64 0,.int .u64 0,.int .u64 0,.int .u64 0,.int .u64 0,.int .u64 0,.int .u64 0,.int .u64 0,.int .i64 0,.pointer (some ⟨rb,0,none⟩)] 74)).heap.size=w9.heap.size+1:=by simp
 generalize w9.alloc (.cells #[.int .u64 65536,.int .u64 0,.int .u64 0,.int .u64 0,.int .u64 0,.int .u64 0,.int .u64 0,.int .u64 0,.int .u64 0,.int .u64 0,.int .u64 0,.int .u64 0,.int .u64 0,.int .u64 0,.int .u64 0,.int .u64 0,.int .u64 0,.int .u64 0,.int .u64 0,.int .u64 0,.int .u64 0,.int .u64 0,.int .u64 0,.int .u64 0,.int .u64 0,.int .u64 0,.int .u64 0,.int .u64 0,.int .u64 0,.int .u64 0,.int .u64 0,.int .u64 0,.int .u64 0,.int .u64 0,.int .i64 0,.pointer (some ⟨rb,0,none⟩)] 74)=X at *
 have hsn:(Instr.storeAt 47 (.pointer (some ⟨X.heap.size,0,none⟩)) (.agg #[.int .u64 65536,.int .u64 0,.int .u64 0,.int .u64 0,.int .u64 0,.int .u64 0,.int .u64 0,.int .u64 0,.int .u64 0,.int .u64 0,.int .u64 0,.int .u64 0,.int .u64 0,.int .u64 0,.int .u64 0,.int .u64 0,.int .u64 0,.int .u64 0,.int .u64 0,.int .u64 0,.int .u64 0,.int .u64 0,.int .u64 0,.int .u64 0,.int .u64 0,.int .u64 0,.int .u64 0,.int .u64 0,.int .u64 0,.int .u64 0,.int .u64 0,.int .u64 0,.int .u64 0,.int .u64 0,.int .i64 0])).run prog (X.alloc (.cells #[.int .u64 0,.int .u64 0,.int .u64 0,.int .u64 0,.int .u64 0,.int .u64 0,.int .u64 0,.int .u64 0,.int .u64 0,.int .u64 0,.int .u64 0,.int .u64 0,.int .u64 0,.int .u64 0,.int .u64 0,.int .u64 0,.int .u64 0,.int .u64 0,.int .u64 0,.int .u64 0,.int .u64 0,.int .u64 0,.int .u64 0,.int .u64 0,.int .u64 0,.int .u64 0,.int .u64 0,.int .u64 0,.int .u64 0,.int .u64 0,.int .u64 0,.int .u64 0,.int .u64 0,.int .u64 0,.int .i64 0] 47))=.ok () (X.alloc (.cells #[.int .u64 65536,.int .u64 0,.int .u64 0,.int .u64 0,.int .u64 0,.int .u64 0,.int .u64 0,.int .u64 0,.int .u64 0,.int .u64 0,.int .u64 0,.int .u64 0,.int .u64 0,.int .u64 0,.int .u64 0,.int .u64 0,.int .u64 0,.int .u64 0,.int .u64 0,.int .u64 0,.int .u64 0,.int .u64 0,.int .u64 0,.int .u64 0,.int .u64 0,.int .u64 0,.int .u64 0,.int .u64 0,.int .u64 0,.int .u64 0,.int .u64 0,.int .u64 0,.int .u64 0,.int .u64 0,.int .i64 0] 47)):=zCY X 65536 (List.replicate 32 0) 0 0 rfl
 have hY0:StAt (X.alloc (.cells #[.int .u64 65536,.int .u64 0,.int .u64 0,.int .u64 0,.int .u64 0,.int .u64 0,.int .u64 0,.int .u64 0,.int .u64 0,.int .u64 0,.int .u64 0,.int .u64 0,.int .u64 0,.int .u64 0,.int .u64 0,.int .u64 0,.int .u64 0,.int .u64 0,.int .u64 0,.int .u64 0,.int .u64 0,.int .u64 0,.int .u64 0,.int .u64 0,.int .u64 0,.int .u64 0,.int .u64 0,.int .u64 0,.int .u64 0,.int .u64 0,.int .u64 0,.int .u64 0,.int .u64 0,.int .u64 0,.int .i64 0] 47)) X.heap.size 65536 (List.replicate 32 0) 0 0:=⟨zzn X (.cells (stV 65536 (List.replicate 32 0) 0 0).toArray 47),rfl⟩;have kY0:=Bl.new X (.cells #[.int .u64 65536,.int .u64 0,.int .u64 0,.int .u64 0,.int .u64 0,.int .u64 0,.int .u64 0,.int .u64 0,.int .u64 0,.int .u64 0,.int .u64 0,.int .u64 0,.int .u64 0,.int .u64 0,.int .u64 0,.int .u64 0,.int .u64 0,.int .u64 0,.int .u64 0,.int .u64 0,.int .u64 0,.int .u64 0,.int .u64 0,.int .u64 0,.int .u64 0,.int .u64 0,.int .u64 0,.int .u64 0,.int .u64 0,.int .u64 0,.int .u64 0,.int .u64 0,.int .u64 0,.int .u64 0,.int .i64 0] 47);have HX0:=hid (hX0.bl' kY0);clear hX0;have HY0:=hid hY0;clear hY0;have KXY:=hid (kX0.trans kY0);clear kX0 kY0;rw [s9] at HX0;have s10:X.heap.size=w8.heap.size+2:=by omega
 have SX:=hid s10;clear s10;have S9:=hid s9;clear s9 sX0;go_upto_region 15 with (first
  | (refine wplS _ rfl (.tmp 12) (.tmp 41) 47 rfl _ _ rfl rfl hsn ?_)
  | go_in)
 (try simp only [Act.put])
 generalize X.alloc (.cells #[.int .u64 65536,.int .u64 0,.int .u64 0,.int .u64 0,.int .u64 0,.int .u64 0,.int .u64 0,.int .u64 0,.int .u64 0,.int .u64 0,.int .u64 0,.int .u64 0,.int .u64 0,.int .u64 0,.int .u64 0,.int .u64 0,.int .u64 0,.int .u64 0,.int .u64 0,.int .u64 0,.int .u64 0,.int .u64 0,.int .u64 0,.int .u64 0,.int .u64 0,.int .u64 0,.int .u64 0,.int .u64 0,.int .u64 0,.int .u64 0,.int .u64 0,.int .u64 0,.int .u64 0,.int .u64 0,.int .i64 0] 47)=Y at *;obtain ⟨KK,hKK⟩:∃ KK:Nat→Prop,KK=fun b=>((J b∨(w7.heap.size≤b∧b<w8.heap.size))∨(w8.heap.size≤b∧b<w9.heap.size))∨(w9.heap.size≤b∧b<Y.heap.size):=⟨_,rfl⟩
 have h10:=H9.out.bl KXY.out;rw [← hKK] at h10;have hltY:=HY0.out.lt;have kold:∀ q,q<w.heap.size→KK q:=fun q hq=>by rw [hKK];exact .inl (.inl (.inl (JB.out q hq)))
 have kh:KK w8.heap.size:=by rw [hKK];exact .inl (.inr ⟨zzr _,by have:=S9.out;omega⟩)
 have kk:KK (w8.heap.size+1):=by rw [hKK];exact .inr ⟨by have:=S9.out;omega,by have:=SX.out;omega⟩
 have kt:KK X.heap.size:=by rw [hKK];exact .inr ⟨by have:=S9.out;have:=SX.out;omega,hltY⟩
 have kc:KK cb:=by rw [hKK];exact .inl (.inl (.inr ⟨c1,c2⟩))
 have kB:KK B:=by rw [hKK];exact .inl (.inl (.inr ⟨b1,b2⟩))
 clear hKK;have KO:=hid kold;clear kold;have KH:=hid kh;clear kh;have KK_:=hid kk;clear kk;have KT:=hid kt;clear kt;have KC:=hid kc;clear kc;have KB_:=hid kB;clear kB;have CB:=hid (And.intro c1 (And.intro c2 (And.intro b1 b2)));clear c1 c2 b1 b2;have H10:=hid h10;clear h10;have HC10:=hid (HC9.out.bl KXY.out);have HT10:=hid (HHT.out.bl KXY.out);have K10:=hid (K9.out.trans KXY.out);have HS7:=hid hs7;clear hs7;have HSY:=hid hltY;clear hltY;clear H9 HC9 HHT K9 KXY hsn K7 K8 JB;rw [← rg_one rl rs] at HX0 HY0;have LC:Hid (LpC w w8.heap.size (w8.heap.size+1) X.heap.size cb B KK):=hid ⟨by
  have h1:=CB.out;have h2:=SX.out;refine ⟨by omega,by omega,by omega,by omega,by omega,by omega,by omega⟩,KT.out,KK_.out,by have h2:=SX.out;have h3:=HS7.out;have h1:=CB.out;omega⟩
 go_loopw [13] (fun i wr=>∃ k:Nat,1≤k∧k≤32∧i=.int .i64 k∧LpAt w Y.heap.size w8.heap.size (w8.heap.size+1) X.heap.size sb rb cb B 72576 on M st6 KK (rg rl rs k) (rg rl rs k) wr) (fun i _=>32 - (intOf i).toNat)
 case atStart=>exact ⟨1,by omega,by omega,rfl,HY0.out,HX0.out,H10.out,HC10.out,HT10.out,K10.out,rfl⟩
 case round =>
  obtain ⟨k,hk1,hk,rfl,hlp⟩:=hrel;have HLP:=hid hlp;clear hlp;clear HX0 HY0 H10 HC10 HT10 K10;have hkI1:(1:Int)≤(k:Int):=by omega
  have hkI0:(0:Int)≤(k:Int):=by omega
  by_cases hlt:k<32
  ·have hltI:(k:Int)<32:=by omega
   have c0:=HLP.out.stt.x k hlt;have z0:=HLP.out.stt.free (1+k);go_upto_region 18 with (fail);have LP1:=hid (HLP.out.setT LC.out k hlt (131072+(k:Int)*8));clear c0 z0 HLP;generalize wr.setCell ⟨X.heap.size,1+k,none⟩ (.int .u64 (131072+(k:Int)*8))=V1 at *;have c0:=LP1.out.stt.x k hlt;have z0:=LP1.out.stt.free (1+k);by_cases hp:k<rl
   ·obtain ⟨b,off,rfl,_,hc⟩:=(HRI.out.bl LP1.out.bl) (by omega);have cr:=hc k hp;have hv:valR rl rs k=rs k:=if_pos hp;have hpI:(k:Int)<(rl:Int):=by omega
    clear hc;go_upto_region 20 with (fail);have LP2:=hid (LP1.out.setT LC.out k hlt (rs k));rw [List.set_set,← hv,zHI _ _ _ hk1 hlt] at LP2;rw [hv] at LP2;clear c0 z0 LP1 cr;generalize V1.setCell ⟨X.heap.size,1+k,none⟩ (.int .u64 (rs k))=V2 at *;have c0:=LP2.out.stt.rx k hlt;have e0:rx (rg rl rs (k+1)) k=valR rl rs k:=by unfold rx;rw [Int.toNat_natCast,zHs _ _ _ _ hlt,if_pos ⟨hk1,by omega⟩]
    rw [e0] at c0;have c1:=LP2.out.ha.x k hlt;have z1:V2.frozen? ⟨w8.heap.size+1,1+k,none⟩=false:=by simp [World.frozen?,LP2.out.ha.blk]
    clear e0;go_region
    all_goals (
     (try go_wp2_with fail)
     have h3:=(LP2.out.setK LC.out k hlt (valR rl rs k)).drew;rw [zHI _ _ _ hk1 hlt,hv] at h3;refine ⟨⟨k+1,by omega,by omega,by go_num,h3⟩,?_⟩;simp only [intOf];omega)
   ·have hv:valR rl rs k=131072+8*(k:Int):=if_neg hp;have hpI:(rl:Int)≤(k:Int):=by omega
    go_upto_region 20 with (fail);have LP2:=LP1;rw [show (131072+(k:Int)*8)=valR rl rs k by rw [hv];omega,zHI _ _ _ hk1 hlt] at LP2;clear c0 z0 LP1;generalize V1=V2 at *;have c0:=LP2.out.stt.rx k hlt;have e0:rx (rg rl rs (k+1)) k=valR rl rs k:=by unfold rx;rw [Int.toNat_natCast,zHs _ _ _ _ hlt,if_pos ⟨hk1,by omega⟩]
    rw [e0] at c0;have c1:=LP2.out.ha.x k hlt;have z1:V2.frozen? ⟨w8.heap.size+1,1+k,none⟩=false:=by simp [World.frozen?,LP2.out.ha.blk]
    clear e0;go_region
    all_goals (
     (try go_wp2_with fail)
     have h3:=(LP2.out.setK LC.out k hlt (valR rl rs k)).drew;rw [zHI _ _ _ hk1 hlt,hv] at h3;refine ⟨⟨k+1,by omega,by omega,by go_num,h3⟩,?_⟩;simp only [intOf];omega)
  ·obtain rfl:k=32:=by omega
   have hld:=HLP.out.stt.load;have cs:=hset_any HLP.out.ht 65536 (rg rl rs 32) 0 0 (zJm ..);unfold zB at cs;go_wp2_with (first
    | (refine wplL _ rfl (.tmp 12) 47 rfl _ _ rfl hld ?_)
    | (go_at_call 19;with_reducible refine cs.mono ?_;rintro e w10 ⟨rfl,g1,g2⟩)
    | go_in)
   rw [rg_set0] at g1;have G1:=hid g1;clear g1;have G2:=hid g2;clear g2 cs hld;go_ret2;have hsz:=G2.out.size;have hS9:=S9.out;have hCB:=CB.out;have h7:=HS7.out;have hw8:w8.heap.size<wr.heap.size:=HLP.out.ht.lt;refine ⟨w8.heap.size,w8.heap.size+1,sb,rb,cb,B,72576,M,st6,KK,rfl,HPR.out,?_⟩;refine ⟨(HLP.out.two.frX G2.out (fun b _ e=>by rw [show b=w8.heap.size from e];exact KH.out)).less (fun b hb=>.inl hb),KO.out,KH.out,KK_.out,KC.out,KB_.out,G1.out,HLP.out.ha.fr' G2.out (fun e=>by have e3:w8.heap.size+1=w8.heap.size:=e;omega),HLP.out.cch.fr G2.out (fun e=>by have e3:cb=w8.heap.size:=e;omega) (fun e=>by have e3:B=w8.heap.size:=e;omega),⟨by omega,by omega,by omega,by omega⟩,⟨by omega,by omega,by omega,by omega,by omega⟩,by omega,⟨by omega,by omega⟩,?_⟩;exact zKc HLP.out.bl G2.out (fun q hq e=>by have e3:q=w8.heap.size:=e;omega)
structure Solo (K:Nat→Prop) (w:World) (hb sb cb B n:Nat) (on:Bool) (s:St) (M st:Nat→Int):Prop where
 ex:∃ T,Mach T w hb sb cb B n on s l3 M st 20 0 0∧(∀ b,K b→¬ T b)∧∀ b,w.heap.size≤b→T b
theorem Made.solo {kb:Nat} {on:Bool} {rl:List Int} (h:Made w0 w hb kb sb rb cb B n on rl M st K) (hr:Regs rl) (hT:Td.zBk w0):Solo K w hb sb cb B n on ⟨65536,rl,0,0⟩ M st:=by
 obtain ⟨T1,T2,P,h1,h2,h3,h4,h5,h6⟩:=h.two.ex;have h21:20<w0.heap.size:=hT.lt (by decide);obtain ⟨a1,a2,a3,a4⟩:=h.lo;obtain ⟨n1,n2,n3,n4,n5⟩:=h.ne;exact ⟨T1,⟨h.ht,hr,⟨show (0:Int)≤65536 by decide,show (65536:Int)<18446744073709551616 by decide⟩,⟨h1,h.cch,hT.bl h.bl,l3_rs.al,(h5 _ h.kh).1,(h5 _ h.kc).1,(h5 _ h.kB).1,n2,n3,h.lt.1,h.lt.2,by omega,by omega,fun g hg=>(h5 g (h.old g (by omega))).1⟩⟩,fun b hb=>(h5 b hb).1,fun b hb=>(h6 b hb).1⟩
section
variable {K:Nat→Prop} {w w':World} {hb sb cb B n:Nat} {on:Bool} {s:St} {M st:Nat→Int}
theorem Solo.ht (h:Solo K w hb sb cb B n on s M st):HtAt w hb s.pc s.xs s.ha s.hn sb cb:=by obtain ⟨T,h1,_⟩:=h.ex;exact h1.ht
theorem Solo.regs (h:Solo K w hb sb cb B n on s M st):Regs s.xs:=by obtain ⟨T,h1,_⟩:=h.ex;exact h1.regs
theorem Solo.fr (h:Solo K w hb sb cb B n on s M st) (k:Fr U w w') (hU:∀ b,b<w.heap.size→U b→K b∧b≠hb∧b≠cb∧b≠B∧21≤b):Solo (fun b=>K b∨(w.heap.size≤b∧b<w'.heap.size)) w' hb sb cb B n on s M st:=by
 obtain ⟨T,h1,h2,h3⟩:=h.ex;have hs:=k.size;have h0:=h1.base;have hl:=h1.ht.lt;have g1:MS (fun b=>T b∧(b<w.heap.size∨w'.heap.size≤b)) w' sb n l3 M st 20 0 0:=
  ((h0.ms.among (U:=fun b=>T b∧b<w.heap.size) fun b hb hT=>⟨hT,hb⟩).kept k (fun b e e2=>h2 b (hU b e.2 e2).1 e.1)).among fun b hb e=>⟨e.1,.inl e.2⟩
 have hcl:=h0.cl;have hBl:=h0.Bl_;have htab:=h0.tabs;have h20:20<w.heap.size:=htab.lt (by decide);refine ⟨fun b=>T b∧(b<w.heap.size∨w'.heap.size≤b),⟨h1.ht.fr k (fun e=>(hU _ hl e).2.1 rfl),h1.regs,h1.pcb,⟨g1,h0.cch.fr k (fun e=>(hU _ hcl e).2.2.1 rfl) (fun e=>(hU _ hBl e).2.2.2.1 rfl),htab.fr k (fun g hg e=>by have:=(hU g (by omega) e).2.2.2.2;omega),h0.al,fun e=>h0.nb e.1,fun e=>h0.nc e.1,fun e=>h0.nB e.1,h0.bc,h0.bB,Nat.lt_of_lt_of_le h0.cl hs,Nat.lt_of_lt_of_le h0.Bl_ hs,h0.B21,h0.b21,fun g hg e=>h0.t21 g hg e.1⟩⟩,fun b hb e=>?_,fun b hb=>⟨h3 b (by omega),.inr hb⟩⟩;rcases hb with hb|hb
 ·exact h2 b hb e.1
 ·rcases e.2 with h|h<;>omega
theorem Solo.step (h:Solo K w hb sb cb B n on s M st) (hn:n<80000000) :
  Calls prog 11 #[zB hb] w fun e w'=>∃ k fk fa s' M' st',zBT l3 M s k fk fa s' M'∧e=.returned (zAD k fk fa)∧Solo K w' hb sb cb B (n+9) on s' M' st'∧Fr (fun x=>¬ K x∨x=hb∨x=B) w w':=by
 obtain ⟨T,h1,h2,h3⟩:=h.ex;refine (hstep_any h1 hn h3).mono ?_;rintro e w' ⟨k,fk,fa,s',M',st',g1,rfl,g2,g3⟩;exact ⟨k,fk,fa,s',M',st',g1,rfl,⟨T,g2,h2,fun b hb=>h3 b (Nat.le_trans g3.size hb)⟩,g3.mono fun x _ e=>by
  rcases e with e|e
  ·exact .inl (fun hk=>h2 x hk e)
  ·exact .inr e⟩
theorem Solo.state (h:Solo K w hb sb cb B n on s M st):Calls prog 17 #[zB hb] w fun e w'=>e=.returned (.agg (stV s.pc s.xs s.ha s.hn).toArray)∧Bl w w':=zEb h.ht
end
theorem stop_kind (k fk fa:Int) (W:World):(Instr.field 33 (.agg #[.int .i64 k,.int .i64 fk,.int .u64 fa]) 0).run prog W=.ok (.int .i64 k) W:=by kernel_rfl
theorem state_x (pc:Int) (ha hn:Int) (hl:xs.length=32) (W:World):(Instr.field 47 (.agg (stV pc xs ha hn).toArray) 1).run prog W=.ok (.agg (xs.map (Value.int .u64)).toArray) W:=by
 have h1:(Instr.field 47 (.agg (stV pc xs ha hn).toArray) 1).run prog W=.ok (.agg ((stV pc xs ha hn).toArray.extract 1 33)) W:=by kernel_rfl
 have h2:(stV pc xs ha hn).toArray.extract 1 33=(xs.map (Value.int .u64)).toArray:=by
  rw [List.extract_toArray]
  congr 1
  simp [List.extract_eq_take_drop,stV,hl]
 rw [h2] at h1;exact h1
theorem bytes2H (w:World) (x y:Int) (hx:0≤x∧x≤255) (hy:0≤y∧y≤255):BytesIn (w.alloc (.cells #[.int .u8 x,.int .u8 y] 5)) (some ⟨w.heap.size,0,none⟩) 2 2 [x,y]:=by
 refine ⟨fun _=>⟨_,rfl,fun i hi=>?_⟩,rfl,zzr _,(fun e=>by cases e),fun k=>?_,fun _ ad e=>?_,by decide⟩
 ·have hi2:i<2:=hi;rcases (by omega:i=0∨i=1) with rfl|rfl<;>simp [Addr.add]
 ·rcases (by omega:k=0∨k=1∨2≤k) with rfl|rfl|h
  ·exact hx
  ·exact hy
  ·rw [zzd,List.getElem?_eq_none (by simpa using h)];simp
 ·injection e with e;subst e;simp
theorem zHc {y:Int} (h:65536≤y∧y<73728) (p:Int) (hp:bits .and .i64 7 p=p):Can l3 p y:=⟨7,⟨⟨65536,73728,7⟩,by simp [l3],h.1,h.2,rfl⟩,hp⟩
theorem ans_short {p:Nat} (hp:p%2=0) (h:65536≤p∧p+1<73728) (hy:M p+M (p+1)*256=y) (h4:y%4≠3) (hok:okOf y=true):zBl l3 M p ⟨zCs y,0,0,0⟩:=by
 refine ⟨zb M p 2,0,0,zAx.short hp (fun x h1 h2=>zHc (by omega) 4 (by decide)) (by rw [zDq,hy];omega),?_⟩;unfold zEM;rw [if_pos rfl,zDq,hy,Int.toNat_natCast,if_pos hok]
theorem ans_long {p:Nat} (hp:p%2=0) (h:65536≤p∧p+3<73728) (hy:M p+M (p+1)*256+M (p+2)*65536+M (p+3)*16777216=y) (hb:(M p+M (p+1)*256)%4=3) (hok:okOf y=true):zBl l3 M p ⟨zCs y,0,0,0⟩:=by
 refine ⟨zb M p 4,0,0,zAx.long hp (fun x h1 h2=>zHc (by omega) 4 (by decide)) (fun x h1 h2=>zHc (by omega) 4 (by decide)) (by rw [zDq];exact hb),?_⟩;unfold zEM;rw [if_pos rfl,zIb,hy,Int.toNat_natCast,if_pos hok]
theorem zJt {l:Nat} (h:zBU l3 zM 65536 xs l M) (hl:l≤8000) (k:Nat) (hk:k<l):M (65536+k)=xs.getD k 0:=by
 have:=(h (65536+k)).1 ⟨by omega,by omega,7,⟨⟨65536,73728,7⟩,by simp [l3],by simp only;omega,by simp only;omega,rfl⟩⟩
 rw [this,Nat.add_sub_cancel_left]
theorem zCF (w:World) (hT:Td.zBk w):Calls prog 9 #[] w fun e w'=>e=.returned (.bool true)∧Bl w w':=by
 have hbi:=bytes2H w 5 69 (by omega) (by omega);have cm:=zDA (R:=none) (rl:=0) (rc:=0) (rs:=fun _=>0) _ hbi (by omega) (fun h=>by omega) (by omega) false;have CM:=hid cm;clear cm hbi;have HT:=hid hT;clear hT;go_enter func9,ntmps9;go_wp2_with fail;with_reducible refine CM.out.mono ?_
 rintro e w1 ⟨hb,kb,sb,rb,cb,B,n,M,st,K,rfl,hpr,hmd⟩;have hso:=hmd.solo (zIZ _ _ _ (fun j hj=>by omega)) (HT.out.bl (Bl.new _ _));have hn:=hmd.le;have hlo:=hmd.lo;have hold:=hmd.old;have hbl:=hmd.bl;have hM0:M 65536=5:=zJt hpr (by omega) 0 (by omega);have hM1:M 65537=69:=zJt hpr (by omega) 1 (by omega);have han:zBl l3 M 65536 ⟨zCs 17669,0,0,0⟩:=ans_short (y:=17669) (by decide) (by decide) (by rw [hM0,hM1];decide) (by decide) (by decide +kernel);have hin:zCs 17669=⟨22,10,0,0,1,0,2⟩:=by decide +kernel
 rw [hin] at han;have hdo:DoIs l3 M ⟨65536,rg 0 (fun _=>0) 32,0,0⟩ ⟨22,10,0,0,1,0,2⟩ 0 0 0 ⟨65538,setX (rg 0 (fun _=>0) 32) 10 1,0,0⟩ M:=by
  have h1:=DoIs.reck (L:=l3) (M:=M) (s:=⟨65536,rg 0 (fun _=>0) 32,0,0⟩) (i:=⟨22,10,0,0,1,0,2⟩) (.inr (.inl ⟨by decide,by decide⟩));have h2:recV (rg 0 (fun _=>0) 32) ⟨22,10,0,0,1,0,2⟩=1:=by decide +kernel
  simp only [h2] at h1;exact h1
 have hmac:zBT l3 M ⟨65536,rg 0 (fun _=>0) 32,0,0⟩ 0 0 0 ⟨65538,setX (rg 0 (fun _=>0) 32) 10 1,0,0⟩ M:=zBT.go ⟨⟨22,10,0,0,1,0,2⟩,0,0,0⟩ _ _ _ _ _ han rfl hdo;have cs:=hso.step (by omega);unfold zB at cs ⊢;go_wp2_with fail;with_reducible refine cs.mono ?_
 rintro e w2 ⟨k,fk,fa,s',M',st',g1,rfl,g2,g3⟩;obtain ⟨rfl,rfl,rfl,rfl,rfl⟩:=g1.one hmac;unfold zAD;have ct:=g2.state;unfold zB at ct;have hk:=stop_kind 0 0 0;have hx:=state_x 65538 (xs:=setX (rg 0 (fun _=>0) 32) 10 1) 0 0 (by decide);have hi:∀ W,(Instr.index 43 (.agg ((setX (rg 0 (fun _=>0) 32) 10 1).map (Value.int .u64)).toArray) (.int .i64 10)).run prog W=.ok (.int .u64 1) W:=fun W=>by kernel_rfl
 generalize setX (rg 0 (fun _=>0) 32) 10 1=ys at *;clear hdo hmac g1;go_wp2_with fail;with_reducible refine ct.mono ?_
 rintro e w3 ⟨rfl,k3⟩;have hb3:Bl w w3:=by
  have h1:=zKc hbl g3 (fun q hq e=>by
   rcases e with e|e|e
   ·exact e (hold q hq)
   ·omega
   ·omega)
  exact (Bl.new w _).trans (h1.trans k3)
 have HB3:=hid hb3;clear hb3;go_wp2_with fail;go_ret;exact ⟨rfl,HB3.out⟩
theorem HAt.bl {pc at_ held:Int} (h:HAt w hb rb pc xs at_ held) (k:Bl w w'):HAt w' hb rb pc xs at_ held:=⟨k.at_ h.blk,h.len⟩
theorem HAt.fr {pc at_ held:Int} (h:HAt w hb rb pc xs at_ held) (k:Fr U w w') (hn:¬ U hb):HAt w' hb rb pc xs at_ held:=⟨k.at_ h.blk hn,h.len⟩
structure Mid (S:Nat→Prop) (w:World) (hb rb:Nat) (P:List Pg) (M:Nat→Int) (mo b0 b1 pc:Int) (xs:List Int) (V:World):Prop where
 hart:HAt V hb rb pc xs 0 0
 stop:V.heap[w.heap.size]?=some (.cells #[.int .i64 0,.int .i64 0,.int .u64 0] 33 (0,0))
 rp:RP (fun b=>S b∧b<w.heap.size) V rb P M mo b0 b1
 fr:Fr (fun b=>S b∨b=hb) w V
 lt:hb<w.heap.size
 nS:¬ S hb
variable {b0 b1 mo:Int} {P:List Pg}
theorem zIG (h:RP S w rb P M mo b0 b1) (a:Nat) (ha:a<2^64):Calls prog 57 #[zB rb,.int .u64 (a:Int),.int .i64 4] w (zEO w (regs P) M a 4):=zIX h a 4 ha (by omega)
theorem zIF (h:RP S w rb P M mo b0 b1) (a:Nat) (ha:a<2^64):Calls prog 57 #[zB rb,.int .u64 (a:Int),.int .i64 8] w (zEO w (regs P) M a 8):=zIX h a 8 ha (by omega)
theorem probe_lit4 (h:RP S w rb P M mo b0 b1) (a:Nat) (ha:a<2^64):Calls prog 96 #[zB rb,.int .u64 (a:Int),.int .i64 4] w (zDJ w (regs P) 2 a 4 2):=zHH h a 4 (by omega) (by omega) (by omega)
theorem zGd (h:RP S w rb P M mo b0 b1) (a:Nat) (x:Int) (ha:a<2^64):Calls prog 56 #[zB rb,.int .u64 (a:Int),.int .i64 4,.int .u64 x] w (zDY S w rb P M mo b0 b1 a 4 x):=zHG h a 4 x ha (by omega)
theorem probe_lit8 (h:RP S w rb P M mo b0 b1) (a:Nat) (ha:a<2^64):Calls prog 96 #[zB rb,.int .u64 (a:Int),.int .i64 8] w (zDJ w (regs P) 2 a 8 2):=zHH h a 8 (by omega) (by omega) (by omega)
theorem zGc (h:RP S w rb P M mo b0 b1) (a:Nat) (x:Int) (ha:a<2^64):Calls prog 56 #[zB rb,.int .u64 (a:Int),.int .i64 8,.int .u64 x] w (zDY S w rb P M mo b0 b1 a 8 x):=zHG h a 8 x ha (by omega)
theorem zJj {a:Nat}:zV (zb M a n) (8*(n:Int))=zV (zb M a n) (8*(n:Int)):=rfl
section
variable {S:Nat→Prop} {mo b0 b1:Int} {w V V':World} {hb rb:Nat} {P:List Pg} {M M':Nat→Int} {pc ha hn:Int} {xs:List Int}
theorem zEG (h:RP S w rb P M mo b0 b1) (hh:HAt w hb rb pc xs ha hn) (hS:¬ S hb):Mid S w hb rb P M mo b0 b1 pc xs (((w.alloc (.cells #[.int .i64 0,.int .i64 0,.int .u64 0] 33)).setCell ⟨hb,34,none⟩ (.int .i64 0)).setCell ⟨hb,33,none⟩ (.int .u64 0)):=by
 have hlt:=hh.lt;have f:Fr (only hb) (w.alloc (.cells #[.int .i64 0,.int .i64 0,.int .u64 0] 33)) (((w.alloc (.cells #[.int .i64 0,.int .i64 0,.int .u64 0] 33)).setCell ⟨hb,34,none⟩ (.int .i64 0)).setCell ⟨hb,33,none⟩ (.int .u64 0)):=(Fr.set (S:=only hb) (p:=⟨hb,34,none⟩) rfl _).trans (Fr.set (S:=only hb) (p:=⟨hb,33,none⟩) rfl _);refine ⟨((hh.bl (Bl.new w _)).zIW 0).setAt 0,f.at_ (zzn w _) (fun e=>by have:w.heap.size=hb:=e;omega),?_,(Fr.zP (Bl.new w _)).trans (f.mono fun b _ e=>.inr e),hlt,hS⟩;exact ((h.among (U:=fun b=>S b∧b<w.heap.size) fun b hb hS=>⟨hS,hb⟩).bl (Bl.new w _)).kept f (fun b _ e e2=>hS (by rw [← (show b=hb from e2)];exact e.1))
theorem Mid.bl (h:Mid S w hb rb P M mo b0 b1 pc xs V) (k:Bl V V'):Mid S w hb rb P M mo b0 b1 pc xs V':=⟨h.hart.bl k,k.at_ h.stop,h.rp.bl k,h.fr.trans (Fr.zP k),h.lt,h.nS⟩
theorem Mid.zJV (h:Mid S w hb rb P M mo b0 b1 pc xs V) (hr:RP (fun b=>S b∧b<w.heap.size) V' rb P M' mo b0 b1) (k:Fr (fun b=>S b∧b<w.heap.size) V V'):Mid S w hb rb P M' mo b0 b1 pc xs V':=
 ⟨h.hart.fr k (fun e=>h.nS e.1),k.at_ h.stop (fun e=>by omega),hr,h.fr.trans (k.mono fun b _ e=>.inl e.1),h.lt,h.nS⟩
theorem Mid.fin (h:Mid S w hb rb P M mo b0 b1 pc xs V) (k fk fa:Int) :
  ((((V.setCell ⟨w.heap.size,0,none⟩ (.int .i64 k)).setCell ⟨w.heap.size,1,none⟩ (.int .i64 fk)).setCell ⟨w.heap.size,2,none⟩ (.int .u64 fa))).heap[w.heap.size]?=some (.cells #[.int .i64 k,.int .i64 fk,.int .u64 fa] 33 (0,0)) ∧
  HAt (((V.setCell ⟨w.heap.size,0,none⟩ (.int .i64 k)).setCell ⟨w.heap.size,1,none⟩ (.int .i64 fk)).setCell ⟨w.heap.size,2,none⟩ (.int .u64 fa)) hb rb pc xs 0 0 ∧
  RP S (((V.setCell ⟨w.heap.size,0,none⟩ (.int .i64 k)).setCell ⟨w.heap.size,1,none⟩ (.int .i64 fk)).setCell ⟨w.heap.size,2,none⟩ (.int .u64 fa)) rb P M mo b0 b1 ∧
  Fr (fun b=>S b∨b=hb) w (((V.setCell ⟨w.heap.size,0,none⟩ (.int .i64 k)).setCell ⟨w.heap.size,1,none⟩ (.int .i64 fk)).setCell ⟨w.heap.size,2,none⟩ (.int .u64 fa)):=by
 have f:Fr (only w.heap.size) V (((V.setCell ⟨w.heap.size,0,none⟩ (.int .i64 k)).setCell ⟨w.heap.size,1,none⟩ (.int .i64 fk)).setCell ⟨w.heap.size,2,none⟩ (.int .u64 fa)):=((Fr.set (S:=only w.heap.size) (p:=⟨w.heap.size,0,none⟩) rfl _).trans (Fr.set (S:=only w.heap.size) (p:=⟨w.heap.size,1,none⟩) rfl _)).trans (Fr.set (S:=only w.heap.size) (p:=⟨w.heap.size,2,none⟩) rfl _);have hl:=h.lt;refine ⟨set3 _ _ _ h.stop,h.hart.fr f (fun e=>by have:hb=w.heap.size:=e;omega),?_,((h.fr.zBb (p:=⟨w.heap.size,0,none⟩) (zzr _) _).zBb (p:=⟨w.heap.size,1,none⟩) (zzr _) _).zBb (p:=⟨w.heap.size,2,none⟩) (zzr _) _⟩;exact (h.rp.kept f (fun b _ e e2=>by have:b=w.heap.size:=e2;omega)).among fun b _ e=>e.1
theorem Mid.held (h:Mid S w hb rb P M mo b0 b1 pc xs V) (at_ hd:Int):HAt ((V.setCell ⟨hb,33,none⟩ (.int .u64 at_)).setCell ⟨hb,34,none⟩ (.int .i64 hd)) hb rb pc xs at_ hd∧(((V.setCell ⟨hb,33,none⟩ (.int .u64 at_)).setCell ⟨hb,34,none⟩ (.int .i64 hd))).heap[w.heap.size]?=some (.cells #[.int .i64 0,.int .i64 0,.int .u64 0] 33 (0,0)) ∧
  RP (fun b=>S b∧b<w.heap.size) ((V.setCell ⟨hb,33,none⟩ (.int .u64 at_)).setCell ⟨hb,34,none⟩ (.int .i64 hd)) rb P M mo b0 b1∧Fr (fun b=>S b∨b=hb) w ((V.setCell ⟨hb,33,none⟩ (.int .u64 at_)).setCell ⟨hb,34,none⟩ (.int .i64 hd)):=by
 have f:Fr (only hb) V ((V.setCell ⟨hb,33,none⟩ (.int .u64 at_)).setCell ⟨hb,34,none⟩ (.int .i64 hd)):=(Fr.set (S:=only hb) (p:=⟨hb,33,none⟩) rfl _).trans (Fr.set (S:=only hb) (p:=⟨hb,34,none⟩) rfl _);have hl:=h.lt;exact ⟨(h.hart.setAt at_).zIW hd,f.at_ h.stop (fun e=>by have:w.heap.size=hb:=e;omega),h.rp.kept f (fun b _ e e2=>h.nS (by rw [← (show b=hb from e2)];exact e.1)),h.fr.trans (f.mono fun b _ e=>.inr e)⟩
theorem zFH {V:World} {at_ hd:Int} (hlt:hb<w.heap.size) (hart:HAt V hb rb pc xs at_ hd) (stop:V.heap[w.heap.size]?=some (.cells #[.int .i64 0,.int .i64 0,.int .u64 0] 33 (0,0))) (rp:RP (fun b=>S b∧b<w.heap.size) V rb P M mo b0 b1) (fr:Fr (fun b=>S b∨b=hb) w V) (k fk fa:Int) :
  ((((V.setCell ⟨w.heap.size,0,none⟩ (.int .i64 k)).setCell ⟨w.heap.size,1,none⟩ (.int .i64 fk)).setCell ⟨w.heap.size,2,none⟩ (.int .u64 fa))).heap[w.heap.size]?=some (.cells #[.int .i64 k,.int .i64 fk,.int .u64 fa] 33 (0,0)) ∧
  HAt (((V.setCell ⟨w.heap.size,0,none⟩ (.int .i64 k)).setCell ⟨w.heap.size,1,none⟩ (.int .i64 fk)).setCell ⟨w.heap.size,2,none⟩ (.int .u64 fa)) hb rb pc xs at_ hd ∧
  RP S (((V.setCell ⟨w.heap.size,0,none⟩ (.int .i64 k)).setCell ⟨w.heap.size,1,none⟩ (.int .i64 fk)).setCell ⟨w.heap.size,2,none⟩ (.int .u64 fa)) rb P M mo b0 b1 ∧
  Fr (fun b=>S b∨b=hb) w (((V.setCell ⟨w.heap.size,0,none⟩ (.int .i64 k)).setCell ⟨w.heap.size,1,none⟩ (.int .i64 fk)).setCell ⟨w.heap.size,2,none⟩ (.int .u64 fa)):=by
 have f:Fr (only w.heap.size) V (((V.setCell ⟨w.heap.size,0,none⟩ (.int .i64 k)).setCell ⟨w.heap.size,1,none⟩ (.int .i64 fk)).setCell ⟨w.heap.size,2,none⟩ (.int .u64 fa)):=((Fr.set (S:=only w.heap.size) (p:=⟨w.heap.size,0,none⟩) rfl _).trans (Fr.set (S:=only w.heap.size) (p:=⟨w.heap.size,1,none⟩) rfl _)).trans (Fr.set (S:=only w.heap.size) (p:=⟨w.heap.size,2,none⟩) rfl _);refine ⟨set3 _ _ _ stop,hart.fr f (fun e=>by have:hb=w.heap.size:=e;omega),?_,((fr.zBb (p:=⟨w.heap.size,0,none⟩) (zzr _) _).zBb (p:=⟨w.heap.size,1,none⟩) (zzr _) _).zBb (p:=⟨w.heap.size,2,none⟩) (zzr _) _⟩;exact (rp.kept f (fun b _ e e2=>by have:b=w.heap.size:=e2;omega)).among fun b _ e=>e.1
theorem Mid.fset (h:Mid S w hb rb P M mo b0 b1 pc xs V) {a b:Value} (hg:V.heap[g]?=some (.cells #[a,b] 31 (0,0))) (hgt:w.heap.size<g) (x y:Value):Mid S w hb rb P M mo b0 b1 pc xs ((V.setCell ⟨g,0,none⟩ x).setCell ⟨g,1,none⟩ y)∧((V.setCell ⟨g,0,none⟩ x).setCell ⟨g,1,none⟩ y).heap[g]?=some (.cells #[x,y] 31 (0,0)):=by
 have f:Fr (only g) V ((V.setCell ⟨g,0,none⟩ x).setCell ⟨g,1,none⟩ y):=(Fr.set (S:=only g) (p:=⟨g,0,none⟩) rfl _).trans (Fr.set (S:=only g) (p:=⟨g,1,none⟩) rfl _);have hl:=h.lt;exact ⟨⟨h.hart.fr f (fun e=>by have:hb=g:=e;omega),f.at_ h.stop (fun e=>by have:w.heap.size=g:=e;omega),h.rp.kept f (fun b _ e e2=>by have:b=g:=e2;omega),(h.fr.zBb (p:=⟨g,0,none⟩) (Nat.le_of_lt hgt) _).zBb (p:=⟨g,1,none⟩) (Nat.le_of_lt hgt) _,hl,h.nS⟩,set2 _ _ hg⟩
def zAw (S:Nat→Prop) (w:World) (hb rb:Nat) (P:List Pg) (M:Nat→Int) (mo b0 b1 pc:Int) (xs:List Int) (ha hn op:Int) (a:Nat) (x:Int) (e:Ending) (w':World):Prop:=∃ o M',e=.returned (.tuple #[.int .u64 o.y,zAD o.k o.fk o.fa])∧zO (regs P) M ha hn op a x o M'∧HAt w' hb rb pc xs o.ta o.tn∧RP S w' rb P M' mo b0 b1∧Fr (fun b=>S b∨b=hb) w w'
theorem ratom_none (h:RP S w rb P M mo b0 b1) (hh:HAt w hb rb pc xs ha hn) (hS:¬ S hb) (op:Int) (a:Nat) (x:Int) (hA:a<2^64) (hx0:0≤x) (hx1:x<18446744073709551616) (ho:op<63∨84<op) :
  Calls prog 59 #[zB hb,.int .i64 op,.int .u64 (a:Int),.int .u64 x] w (zAw S w hb rb P M mo b0 b1 pc xs ha hn op a x):=by
 have cw:∀ w,Calls prog 99 #[.int .i64 op] w fun e w'=>e=.returned (.int .i64 0)∧w=w':=fun w=>by
  have:=zAG op w
  rwa [zGN ho] at this
 have CW:=hid cw;clear cw;have hmid:=zEG h hh hS;obtain ⟨c0,c1,c2⟩:=(hh.bl (Bl.new w (.cells #[.int .i64 0,.int .i64 0,.int .u64 0] 33))).cells;have q0:=(hh.bl (Bl.new w (.cells #[.int .i64 0,.int .i64 0,.int .u64 0] 33))).frozen 33;have q1:=(hh.bl (Bl.new w (.cells #[.int .i64 0,.int .i64 0,.int .u64 0] 33))).frozen 34;have HMID:=hid hmid;clear hmid h hh hS;have haI:(a:Int)≤18446744073709551615:=by omega
 have haI0:(0:Int)≤(a:Int):=by omega
 have HA:=hid hA;clear hA;have HS:=hid (zO.none_ (zGN ho):zO (regs P) M ha hn op a x (badO 3 0 0) M);clear ho;have HX:=hid (And.intro hx0 hx1);clear hx0 hx1;unfold zB at *;go_enter func59,ntmps59;go_wp2_with fail;with_reducible refine (CW.out _).mono ?_
 rintro e w' ⟨rfl,rfl⟩;obtain ⟨W,hW⟩:∃ W,W=w.alloc (.cells #[.int .i64 0,.int .i64 0,.int .u64 0] 33):=⟨_,rfl⟩;rw [← hW] at c0 c1 c2 q0 q1 HMID ⊢;clear hW;go_upto_region 6 with (fail);obtain ⟨V,hV⟩:∃ V,V=(W.setCell ⟨hb,34,none⟩ (.int .i64 0)).setCell ⟨hb,33,none⟩ (.int .u64 0):=⟨_,rfl⟩;rw [← hV] at HMID ⊢;clear hV c0 c1 c2 q0 q1;obtain ⟨c0,c1,c2⟩:=HMID.out.hart.cells;have q0:=HMID.out.hart.frozen 33;have q1:=HMID.out.hart.frozen 34;obtain ⟨d0,d1,d2,r0,r1,r2⟩:=row3 HMID.out.stop;go_wp2_with fail;obtain ⟨s1,s2,s3,s4⟩:=HMID.out.fin 3 0 0;refine zzb (zt33 rfl _ _ w.heap.size rfl (s1) rfl) rfl ?_;exact ⟨badO 3 0 0,M,rfl,HS.out,s2,s3,s4⟩
theorem ratom_align4 (h:RP S w rb P M mo b0 b1) (hh:HAt w hb rb pc xs ha hn) (hS:¬ S hb) (op:Int) (a:Nat) (x:Int) (hA:a<2^64) (hx0:0≤x) (hx1:x<18446744073709551616) (ho:awid op=4) (hm:(a:Int)%4≠0) :
  Calls prog 59 #[zB hb,.int .i64 op,.int .u64 (a:Int),.int .u64 x] w (zAw S w hb rb P M mo b0 b1 pc xs ha hn op a x):=by
 have cw:∀ w,Calls prog 99 #[.int .i64 op] w fun e w'=>e=.returned (.int .i64 4)∧w=w':=fun w=>by
  have:=zAG op w
  rwa [ho] at this
 have CW:=hid cw;clear cw;have hmid:=zEG h hh hS;obtain ⟨c0,c1,c2⟩:=(hh.bl (Bl.new w (.cells #[.int .i64 0,.int .i64 0,.int .u64 0] 33))).cells;have q0:=(hh.bl (Bl.new w (.cells #[.int .i64 0,.int .i64 0,.int .u64 0] 33))).frozen 33;have q1:=(hh.bl (Bl.new w (.cells #[.int .i64 0,.int .i64 0,.int .u64 0] 33))).frozen 34;have HMID:=hid hmid;clear hmid h hh hS;have haI:(a:Int)≤18446744073709551615:=by omega
 have haI0:(0:Int)≤(a:Int):=by omega
 have HA:=hid hA;clear hA;have HS:=hid (zO.align (by omega) (by rw [ho];exact hm):zO (regs P) M ha hn op a x (badO 5 0 a) M);clear ho;have t1:((a:Int)%4 != 0)=true:=by simp only [bne_iff_ne,ne_eq];exact hm
 clear hm;have HX:=hid (And.intro hx0 hx1);clear hx0 hx1;unfold zB at *;go_enter func59,ntmps59;go_wp2_with fail;with_reducible refine (CW.out _).mono ?_
 rintro e w' ⟨rfl,rfl⟩;obtain ⟨W,hW⟩:∃ W,W=w.alloc (.cells #[.int .i64 0,.int .i64 0,.int .u64 0] 33):=⟨_,rfl⟩;rw [← hW] at c0 c1 c2 q0 q1 HMID ⊢;clear hW;go_upto_region 6 with (fail);obtain ⟨V,hV⟩:∃ V,V=(W.setCell ⟨hb,34,none⟩ (.int .i64 0)).setCell ⟨hb,33,none⟩ (.int .u64 0):=⟨_,rfl⟩;rw [← hV] at HMID ⊢;clear hV c0 c1 c2 q0 q1;obtain ⟨c0,c1,c2⟩:=HMID.out.hart.cells;have q0:=HMID.out.hart.frozen 33;have q1:=HMID.out.hart.frozen 34;obtain ⟨d0,d1,d2,r0,r1,r2⟩:=row3 HMID.out.stop;go_wp2_with fail;obtain ⟨s1,s2,s3,s4⟩:=HMID.out.fin 5 0 a;refine zzb (zt33 rfl _ _ w.heap.size rfl (s1) rfl) rfl ?_;exact ⟨badO 5 0 a,M,rfl,HS.out,s2,s3,s4⟩
theorem ratom_align8 (h:RP S w rb P M mo b0 b1) (hh:HAt w hb rb pc xs ha hn) (hS:¬ S hb) (op:Int) (a:Nat) (x:Int) (hA:a<2^64) (hx0:0≤x) (hx1:x<18446744073709551616) (ho:awid op=8) (hm:(a:Int)%8≠0) :
  Calls prog 59 #[zB hb,.int .i64 op,.int .u64 (a:Int),.int .u64 x] w (zAw S w hb rb P M mo b0 b1 pc xs ha hn op a x):=by
 have cw:∀ w,Calls prog 99 #[.int .i64 op] w fun e w'=>e=.returned (.int .i64 8)∧w=w':=fun w=>by
  have:=zAG op w
  rwa [ho] at this
 have CW:=hid cw;clear cw;have hmid:=zEG h hh hS;obtain ⟨c0,c1,c2⟩:=(hh.bl (Bl.new w (.cells #[.int .i64 0,.int .i64 0,.int .u64 0] 33))).cells;have q0:=(hh.bl (Bl.new w (.cells #[.int .i64 0,.int .i64 0,.int .u64 0] 33))).frozen 33;have q1:=(hh.bl (Bl.new w (.cells #[.int .i64 0,.int .i64 0,.int .u64 0] 33))).frozen 34;have HMID:=hid hmid;clear hmid h hh hS;have haI:(a:Int)≤18446744073709551615:=by omega
 have haI0:(0:Int)≤(a:Int):=by omega
 have HA:=hid hA;clear hA;have HS:=hid (zO.align (by omega) (by rw [ho];exact hm):zO (regs P) M ha hn op a x (badO 5 0 a) M);clear ho;have t1:((a:Int)%8 != 0)=true:=by simp only [bne_iff_ne,ne_eq];exact hm
 clear hm;have HX:=hid (And.intro hx0 hx1);clear hx0 hx1;unfold zB at *;go_enter func59,ntmps59;go_wp2_with fail;with_reducible refine (CW.out _).mono ?_
 rintro e w' ⟨rfl,rfl⟩;obtain ⟨W,hW⟩:∃ W,W=w.alloc (.cells #[.int .i64 0,.int .i64 0,.int .u64 0] 33):=⟨_,rfl⟩;rw [← hW] at c0 c1 c2 q0 q1 HMID ⊢;clear hW;go_upto_region 6 with (fail);obtain ⟨V,hV⟩:∃ V,V=(W.setCell ⟨hb,34,none⟩ (.int .i64 0)).setCell ⟨hb,33,none⟩ (.int .u64 0):=⟨_,rfl⟩;rw [← hV] at HMID ⊢;clear hV c0 c1 c2 q0 q1;obtain ⟨c0,c1,c2⟩:=HMID.out.hart.cells;have q0:=HMID.out.hart.frozen 33;have q1:=HMID.out.hart.frozen 34;obtain ⟨d0,d1,d2,r0,r1,r2⟩:=row3 HMID.out.stop;go_wp2_with fail;obtain ⟨s1,s2,s3,s4⟩:=HMID.out.fin 5 0 a;refine zzb (zt33 rfl _ _ w.heap.size rfl (s1) rfl) rfl ?_;exact ⟨badO 5 0 a,M,rfl,HS.out,s2,s3,s4⟩
theorem ratom_lr4 (h:RP S w rb P M mo b0 b1) (hh:HAt w hb rb pc xs ha hn) (hS:¬ S hb) (a:Nat) (x:Int) (hA:a<2^64) (hx0:0≤x) (hx1:x<18446744073709551616) (hm:(a:Int)%4=0) :
  Calls prog 59 #[zB hb,.int .i64 63,.int .u64 (a:Int),.int .u64 x] w (zAw S w hb rb P M mo b0 b1 pc xs ha hn 63 a x):=by
 have cw:∀ w,Calls prog 99 #[.int .i64 63] w fun e w'=>e=.returned (.int .i64 4)∧w=w':=fun w=>by
  have:=zAG 63 w
  rwa [show awid 63=4 from rfl] at this
 have CW:=hid cw;clear cw;have hmid:=zEG h hh hS;obtain ⟨c0,c1,c2⟩:=(hh.bl (Bl.new w (.cells #[.int .i64 0,.int .i64 0,.int .u64 0] 33))).cells;have q0:=(hh.bl (Bl.new w (.cells #[.int .i64 0,.int .i64 0,.int .u64 0] 33))).frozen 33;have q1:=(hh.bl (Bl.new w (.cells #[.int .i64 0,.int .i64 0,.int .u64 0] 33))).frozen 34;have HMID:=hid hmid;clear hmid h hh hS;have haI:(a:Int)≤18446744073709551615:=by omega
 have haI0:(0:Int)≤(a:Int):=by omega
 have HA:=hid hA;clear hA;have t1:((a:Int)%4 != 0)=false:=by simp [hm]
 have HM:=hid hm;clear hm;have HX:=hid (And.intro hx0 hx1);clear hx0 hx1;unfold zB at *;go_enter func59,ntmps59;go_wp2_with fail;with_reducible refine (CW.out _).mono ?_
 rintro e w' ⟨rfl,rfl⟩;obtain ⟨W,hW⟩:∃ W,W=w.alloc (.cells #[.int .i64 0,.int .i64 0,.int .u64 0] 33):=⟨_,rfl⟩;rw [← hW] at c0 c1 c2 q0 q1 HMID ⊢;clear hW;go_upto_region 6 with (fail);obtain ⟨V,hV⟩:∃ V,V=(W.setCell ⟨hb,34,none⟩ (.int .i64 0)).setCell ⟨hb,33,none⟩ (.int .u64 0):=⟨_,rfl⟩;rw [← hV] at HMID ⊢;clear hV c0 c1 c2 q0 q1;obtain ⟨c0,c1,c2⟩:=HMID.out.hart.cells;have q0:=HMID.out.hart.frozen 33;have q1:=HMID.out.hart.frozen 34;obtain ⟨d0,d1,d2,r0,r1,r2⟩:=row3 HMID.out.stop;have cl:=zIG HMID.out.rp a HA.out;have CL:=hid cl;clear cl;have HN:=hid (zJj (M:=M) (a:=a) (n:=4));unfold zB at *;go_wp2_with fail;with_reducible refine CL.out.mono ?_
 rintro e w1 ⟨old,k,y,rfl,hh,kk⟩;have HM1:=hid (HMID.out.bl kk);clear HMID kk c0 c1 c2 q0 q1 d0 d1 d2 r0 r1 r2;unfold zt;rcases hh with ⟨rfl,hy,hh⟩|⟨rfl,hx,hy,hh⟩
 ·have HH:=hid hh;clear hh;have HM2:=hid (HM1.out.bl (Bl.new w1 (.cells #[.int .i64 1,.int .u64 y] 31)));obtain ⟨d0,d1,d2,r0,r1,r2⟩:=row3 HM2.out.stop;obtain ⟨f0,f1,g0,g1⟩:=row2 (zzn w1 (.cells #[.int .i64 1,.int .u64 y] 31));go_upto_region 20 with (fail);generalize w1.alloc (.cells #[.int .i64 1,.int .u64 y] 31)=V2 at *;go_region
  all_goals (
   (try go_wp2_with fail)
   obtain ⟨s1,s2,s3,s4⟩:=(HM2.out.bl ((Bl.refl _).drew)).fin 4 1 y;refine zzb (zt33 rfl _ _ w.heap.size rfl (s1) rfl) rfl ?_;exact ⟨badO 4 1 y,M,rfl,zO.lrBad y (by simp) HM.out HH.out,s2,s3,s4⟩)
 ·have HH:=hid hh;clear hh;subst hx;have HM2:=hid (HM1.out.bl (Bl.new w1 (.cells #[.int .i64 0,.int .u64 0] 31)));obtain ⟨c0,c1,c2⟩:=HM2.out.hart.cells;have q0:=HM2.out.hart.frozen 33;have q1:=HM2.out.hart.frozen 34;obtain ⟨d0,d1,d2,r0,r1,r2⟩:=row3 HM2.out.stop;obtain ⟨f0,f1,g0,g1⟩:=row2 (zzn w1 (.cells #[.int .i64 0,.int .u64 0] 31));go_upto_region 21 with (fail);generalize w1.alloc (.cells #[.int .i64 0,.int .u64 0] 31)=V2 at *;go_upto_region 24 with (fail);obtain ⟨u1,u2,u3,u4⟩:=HM2.out.held (a:Int) 4;have HLT:=hid HM2.out.lt;obtain ⟨V3,hV3⟩:∃ V3,V3=(V2.setCell ⟨hb,33,none⟩ (.int .u64 (a:Int))).setCell ⟨hb,34,none⟩ (.int .i64 4):=⟨_,rfl⟩;rw [← hV3] at u1 u2 u3 u4 ⊢;clear hV3 HM2 HM1 c0 c1 c2 q0 q1 d0 d1 d2 r0 r1 r2 f0 f1 g0 g1;obtain ⟨d0,d1,d2,r0,r1,r2⟩:=row3 u2;have U1:=hid u1;clear u1;have U2:=hid u2;clear u2;have U3:=hid u3;have U4:=hid u4;clear u4;have nb:=zEF u3.by_ a 4 (by omega);clear u3;have cs:=fun w=>zZ (zb M a 4) 32 w nb.1
  have CS:=hid cs;clear cs nb;subst hy;go_wp2_with fail;with_reducible refine (CS.out _).mono ?_
  rintro e w' ⟨rfl,rfl⟩;go_wp2_with fail;obtain ⟨s1,s2,s3,s4⟩:=zFH HLT.out U1.out U2.out U3.out U4.out 0 0 0;refine zzb (zt33 rfl _ _ w.heap.size rfl (s1) rfl) rfl ?_;exact ⟨⟨zV (zb M a 4) 32,a,4,0,0,0⟩,M,rfl,zO.lrYes (by simp) HM.out HH.out,s2,s3,s4⟩
theorem ratom_lr8 (h:RP S w rb P M mo b0 b1) (hh:HAt w hb rb pc xs ha hn) (hS:¬ S hb) (a:Nat) (x:Int) (hA:a<2^64) (hx0:0≤x) (hx1:x<18446744073709551616) (hm:(a:Int)%8=0) :
  Calls prog 59 #[zB hb,.int .i64 74,.int .u64 (a:Int),.int .u64 x] w (zAw S w hb rb P M mo b0 b1 pc xs ha hn 74 a x):=by
 have cw:∀ w,Calls prog 99 #[.int .i64 74] w fun e w'=>e=.returned (.int .i64 8)∧w=w':=fun w=>by
  have:=zAG 74 w
  rwa [show awid 74=8 from rfl] at this
 have CW:=hid cw;clear cw;have hmid:=zEG h hh hS;obtain ⟨c0,c1,c2⟩:=(hh.bl (Bl.new w (.cells #[.int .i64 0,.int .i64 0,.int .u64 0] 33))).cells;have q0:=(hh.bl (Bl.new w (.cells #[.int .i64 0,.int .i64 0,.int .u64 0] 33))).frozen 33;have q1:=(hh.bl (Bl.new w (.cells #[.int .i64 0,.int .i64 0,.int .u64 0] 33))).frozen 34;have HMID:=hid hmid;clear hmid h hh hS;have haI:(a:Int)≤18446744073709551615:=by omega
 have haI0:(0:Int)≤(a:Int):=by omega
 have HA:=hid hA;clear hA;have t1:((a:Int)%8 != 0)=false:=by simp [hm]
 have HM:=hid hm;clear hm;have HX:=hid (And.intro hx0 hx1);clear hx0 hx1;unfold zB at *;go_enter func59,ntmps59;go_wp2_with fail;with_reducible refine (CW.out _).mono ?_
 rintro e w' ⟨rfl,rfl⟩;obtain ⟨W,hW⟩:∃ W,W=w.alloc (.cells #[.int .i64 0,.int .i64 0,.int .u64 0] 33):=⟨_,rfl⟩;rw [← hW] at c0 c1 c2 q0 q1 HMID ⊢;clear hW;go_upto_region 6 with (fail);obtain ⟨V,hV⟩:∃ V,V=(W.setCell ⟨hb,34,none⟩ (.int .i64 0)).setCell ⟨hb,33,none⟩ (.int .u64 0):=⟨_,rfl⟩;rw [← hV] at HMID ⊢;clear hV c0 c1 c2 q0 q1;obtain ⟨c0,c1,c2⟩:=HMID.out.hart.cells;have q0:=HMID.out.hart.frozen 33;have q1:=HMID.out.hart.frozen 34;obtain ⟨d0,d1,d2,r0,r1,r2⟩:=row3 HMID.out.stop;have cl:=zIF HMID.out.rp a HA.out;have CL:=hid cl;clear cl;have HN:=hid (zJj (M:=M) (a:=a) (n:=8));unfold zB at *;go_wp2_with fail;with_reducible refine CL.out.mono ?_
 rintro e w1 ⟨old,k,y,rfl,hh,kk⟩;have HM1:=hid (HMID.out.bl kk);clear HMID kk c0 c1 c2 q0 q1 d0 d1 d2 r0 r1 r2;unfold zt;rcases hh with ⟨rfl,hy,hh⟩|⟨rfl,hx,hy,hh⟩
 ·have HH:=hid hh;clear hh;have HM2:=hid (HM1.out.bl (Bl.new w1 (.cells #[.int .i64 1,.int .u64 y] 31)));obtain ⟨d0,d1,d2,r0,r1,r2⟩:=row3 HM2.out.stop;obtain ⟨f0,f1,g0,g1⟩:=row2 (zzn w1 (.cells #[.int .i64 1,.int .u64 y] 31));go_upto_region 20 with (fail);generalize w1.alloc (.cells #[.int .i64 1,.int .u64 y] 31)=V2 at *;go_region
  all_goals (
   (try go_wp2_with fail)
   obtain ⟨s1,s2,s3,s4⟩:=(HM2.out.bl ((Bl.refl _).drew)).fin 4 1 y;refine zzb (zt33 rfl _ _ w.heap.size rfl (s1) rfl) rfl ?_;exact ⟨badO 4 1 y,M,rfl,zO.lrBad y (by simp) HM.out HH.out,s2,s3,s4⟩)
 ·have HH:=hid hh;clear hh;subst hx;have HM2:=hid (HM1.out.bl (Bl.new w1 (.cells #[.int .i64 0,.int .u64 0] 31)));obtain ⟨c0,c1,c2⟩:=HM2.out.hart.cells;have q0:=HM2.out.hart.frozen 33;have q1:=HM2.out.hart.frozen 34;obtain ⟨d0,d1,d2,r0,r1,r2⟩:=row3 HM2.out.stop;obtain ⟨f0,f1,g0,g1⟩:=row2 (zzn w1 (.cells #[.int .i64 0,.int .u64 0] 31));go_upto_region 21 with (fail);generalize w1.alloc (.cells #[.int .i64 0,.int .u64 0] 31)=V2 at *;go_upto_region 24 with (fail);obtain ⟨u1,u2,u3,u4⟩:=HM2.out.held (a:Int) 8;have HLT:=hid HM2.out.lt;obtain ⟨V3,hV3⟩:∃ V3,V3=(V2.setCell ⟨hb,33,none⟩ (.int .u64 (a:Int))).setCell ⟨hb,34,none⟩ (.int .i64 8):=⟨_,rfl⟩;rw [← hV3] at u1 u2 u3 u4 ⊢;clear hV3 HM2 HM1 c0 c1 c2 q0 q1 d0 d1 d2 r0 r1 r2 f0 f1 g0 g1;obtain ⟨d0,d1,d2,r0,r1,r2⟩:=row3 u2;have U1:=hid u1;clear u1;have U2:=hid u2;clear u2;have U3:=hid u3;have U4:=hid u4;clear u4;have nb:=zEF u3.by_ a 8 (by omega);clear u3;have cs:=fun w=>zZ (zb M a 8) 64 w nb.1
  have CS:=hid cs;clear cs nb;subst hy;go_wp2_with fail;with_reducible refine (CS.out _).mono ?_
  rintro e w' ⟨rfl,rfl⟩;go_wp2_with fail;obtain ⟨s1,s2,s3,s4⟩:=zFH HLT.out U1.out U2.out U3.out U4.out 0 0 0;refine zzb (zt33 rfl _ _ w.heap.size rfl (s1) rfl) rfl ?_;exact ⟨⟨zV (zb M a 8) 64,a,8,0,0,0⟩,M,rfl,zO.lrYes (by simp) HM.out HH.out,s2,s3,s4⟩
theorem ratom_sc4 (h:RP S w rb P M mo b0 b1) (hh:HAt w hb rb pc xs ha hn) (hS:¬ S hb) (a:Nat) (x:Int) (hA:a<2^64) (hx0:0≤x) (hx1:x<18446744073709551616) (hm:(a:Int)%4=0) :
  Calls prog 59 #[zB hb,.int .i64 64,.int .u64 (a:Int),.int .u64 x] w (zAw S w hb rb P M mo b0 b1 pc xs ha hn 64 a x):=by
 have cw:∀ w,Calls prog 99 #[.int .i64 64] w fun e w'=>e=.returned (.int .i64 4)∧w=w':=fun w=>by
  have:=zAG 64 w
  rwa [show awid 64=4 from rfl] at this
 have CW:=hid cw;clear cw;have hmid:=zEG h hh hS;obtain ⟨c0,c1,c2⟩:=(hh.bl (Bl.new w (.cells #[.int .i64 0,.int .i64 0,.int .u64 0] 33))).cells;have q0:=(hh.bl (Bl.new w (.cells #[.int .i64 0,.int .i64 0,.int .u64 0] 33))).frozen 33;have q1:=(hh.bl (Bl.new w (.cells #[.int .i64 0,.int .i64 0,.int .u64 0] 33))).frozen 34;have HMID:=hid hmid;clear hmid h hh hS;have haI:(a:Int)≤18446744073709551615:=by omega
 have haI0:(0:Int)≤(a:Int):=by omega
 have HA:=hid hA;clear hA;have t1:((a:Int)%4 != 0)=false:=by simp [hm]
 have HM:=hid hm;clear hm;have HX:=hid (And.intro hx0 hx1);clear hx0 hx1;unfold zB at *;go_enter func59,ntmps59;go_wp2_with fail;with_reducible refine (CW.out _).mono ?_
 rintro e w' ⟨rfl,rfl⟩;obtain ⟨W,hW⟩:∃ W,W=w.alloc (.cells #[.int .i64 0,.int .i64 0,.int .u64 0] 33):=⟨_,rfl⟩;rw [← hW] at c0 c1 c2 q0 q1 HMID ⊢;clear hW;go_upto_region 6 with (fail);obtain ⟨V,hV⟩:∃ V,V=(W.setCell ⟨hb,34,none⟩ (.int .i64 0)).setCell ⟨hb,33,none⟩ (.int .u64 0):=⟨_,rfl⟩;rw [← hV] at HMID ⊢;clear hV c0 c1 c2 q0 q1;obtain ⟨c0,c1,c2⟩:=HMID.out.hart.cells;have q0:=HMID.out.hart.frozen 33;have q1:=HMID.out.hart.frozen 34;obtain ⟨d0,d1,d2,r0,r1,r2⟩:=row3 HMID.out.stop;have cl:=probe_lit4 HMID.out.rp a HA.out;have CL:=hid cl;clear cl;unfold zB at *;go_wp2_with fail;with_reducible refine CL.out.mono ?_
 rintro e w1 ⟨k,y,rfl,hh,kk⟩;have HM1:=hid (HMID.out.bl kk);clear HMID kk c0 c1 c2 q0 q1 d0 d1 d2 r0 r1 r2;unfold zt;rcases hh with ⟨rfl,hh⟩|⟨rfl,hx,hh⟩
 ·have HH:=hid hh;clear hh;have HM2:=hid (HM1.out.bl (Bl.new w1 (.cells #[.int .i64 2,.int .u64 y] 31)));obtain ⟨d0,d1,d2,r0,r1,r2⟩:=row3 HM2.out.stop;obtain ⟨f0,f1,g0,g1⟩:=row2 (zzn w1 (.cells #[.int .i64 2,.int .u64 y] 31));go_upto_region 13 with (fail);generalize w1.alloc (.cells #[.int .i64 2,.int .u64 y] 31)=V2 at *;go_region
  all_goals (
   (try go_wp2_with fail)
   obtain ⟨s1,s2,s3,s4⟩:=(HM2.out.bl ((Bl.refl _).drew)).fin 4 2 y;refine zzb (zt33 rfl _ _ w.heap.size rfl (s1) rfl) rfl ?_;exact ⟨badO 4 2 y,M,rfl,zO.scBad y (by simp) HM.out HH.out,s2,s3,s4⟩)
 ·have HH:=hid hh;clear hh;subst hx;have HM2:=hid (HM1.out.bl (Bl.new w1 (.cells #[.int .i64 0,.int .u64 0] 31)));obtain ⟨c0,c1,c2⟩:=HM2.out.hart.cells;unfold zB at c2;obtain ⟨d0,d1,d2,r0,r1,r2⟩:=row3 HM2.out.stop;obtain ⟨f0,f1,g0,g1⟩:=row2 (zzn w1 (.cells #[.int .i64 0,.int .u64 0] 31));go_upto_region 14 with (fail);generalize w1.alloc (.cells #[.int .i64 0,.int .u64 0] 31)=V2 at *;have hcase:((hn != 4)=true∧¬ (ha=a∧hn=4))∨((hn != 4)=false∧(ha != (a:Int))=true∧¬ (ha=a∧hn=4))∨((hn != 4)=false∧(ha != (a:Int))=false∧(ha=a∧hn=4)):=by
   by_cases e1:hn=4
   ·by_cases e2:ha=a
    ·exact .inr (.inr ⟨by simp [e1],by simp [e2],e2,e1⟩)
    ·exact .inr (.inl ⟨by simp [e1],by simp [e2],fun h=>e2 h.1⟩)
   ·exact .inl ⟨by simp [e1],fun h=>e1 h.2⟩
  rcases hcase with ⟨t2,hno⟩|⟨t2,t3,hno⟩|⟨t2,t3,hyes⟩
  ·have HNO:=hid hno;clear hno;go_wp2_with fail;obtain ⟨s1,s2,s3,s4⟩:=HM2.out.fin 0 0 0;refine zzb (zt33 rfl _ _ w.heap.size rfl (s1) rfl) rfl ?_;exact ⟨⟨1,0,0,0,0,0⟩,M,rfl,zO.scNo (by simp) HM.out HH.out HNO.out,s2,s3,s4⟩
  ·have HNO:=hid hno;clear hno;go_wp2_with fail;obtain ⟨s1,s2,s3,s4⟩:=HM2.out.fin 0 0 0;refine zzb (zt33 rfl _ _ w.heap.size rfl (s1) rfl) rfl ?_;exact ⟨⟨1,0,0,0,0,0⟩,M,rfl,zO.scNo (by simp) HM.out HH.out HNO.out,s2,s3,s4⟩
  ·have HYES:=hid hyes;clear hyes;have cst:=zGd HM2.out.rp a x HA.out;have CST:=hid cst;clear cst;unfold zB at CST;go_wp2_with fail;with_reducible refine CST.out.mono ?_
   rintro e w3 ⟨k,z,rfl,hs⟩;rcases hs with ⟨hk,z1,z2,z3,_⟩|⟨hk,hz,_,hrp,hfr⟩
   ·exact absurd (HH.out z z1 z2) z3
   ·have HM3:=hid (HM2.out.zJV hrp hfr);clear hrp hfr c0 c1 c2 d0 d1 d2 r0 r1 r2 f0 f1 g0 g1;obtain ⟨d0,d1,d2,r0,r1,r2⟩:=row3 HM3.out.stop;go_wp2_with fail;obtain ⟨s1,s2,s3,s4⟩:=HM3.out.fin 0 0 0;refine zzb (zt33 rfl _ _ w.heap.size rfl (s1) rfl) rfl ?_;exact ⟨⟨0,0,0,0,0,0⟩,_,rfl,zO.scYes (by simp) HM.out HH.out HYES.out,s2,s3,s4⟩
theorem ratom_sc8 (h:RP S w rb P M mo b0 b1) (hh:HAt w hb rb pc xs ha hn) (hS:¬ S hb) (a:Nat) (x:Int) (hA:a<2^64) (hx0:0≤x) (hx1:x<18446744073709551616) (hm:(a:Int)%8=0) :
  Calls prog 59 #[zB hb,.int .i64 75,.int .u64 (a:Int),.int .u64 x] w (zAw S w hb rb P M mo b0 b1 pc xs ha hn 75 a x):=by
 have cw:∀ w,Calls prog 99 #[.int .i64 75] w fun e w'=>e=.returned (.int .i64 8)∧w=w':=fun w=>by
  have:=zAG 75 w
  rwa [show awid 75=8 from rfl] at this
 have CW:=hid cw;clear cw;have hmid:=zEG h hh hS;obtain ⟨c0,c1,c2⟩:=(hh.bl (Bl.new w (.cells #[.int .i64 0,.int .i64 0,.int .u64 0] 33))).cells;have q0:=(hh.bl (Bl.new w (.cells #[.int .i64 0,.int .i64 0,.int .u64 0] 33))).frozen 33;have q1:=(hh.bl (Bl.new w (.cells #[.int .i64 0,.int .i64 0,.int .u64 0] 33))).frozen 34;have HMID:=hid hmid;clear hmid h hh hS;have haI:(a:Int)≤18446744073709551615:=by omega
 have haI0:(0:Int)≤(a:Int):=by omega
 have HA:=hid hA;clear hA;have t1:((a:Int)%8 != 0)=false:=by simp [hm]
 have HM:=hid hm;clear hm;have HX:=hid (And.intro hx0 hx1);clear hx0 hx1;unfold zB at *;go_enter func59,ntmps59;go_wp2_with fail;with_reducible refine (CW.out _).mono ?_
 rintro e w' ⟨rfl,rfl⟩;obtain ⟨W,hW⟩:∃ W,W=w.alloc (.cells #[.int .i64 0,.int .i64 0,.int .u64 0] 33):=⟨_,rfl⟩;rw [← hW] at c0 c1 c2 q0 q1 HMID ⊢;clear hW;go_upto_region 6 with (fail);obtain ⟨V,hV⟩:∃ V,V=(W.setCell ⟨hb,34,none⟩ (.int .i64 0)).setCell ⟨hb,33,none⟩ (.int .u64 0):=⟨_,rfl⟩;rw [← hV] at HMID ⊢;clear hV c0 c1 c2 q0 q1;obtain ⟨c0,c1,c2⟩:=HMID.out.hart.cells;have q0:=HMID.out.hart.frozen 33;have q1:=HMID.out.hart.frozen 34;obtain ⟨d0,d1,d2,r0,r1,r2⟩:=row3 HMID.out.stop;have cl:=probe_lit8 HMID.out.rp a HA.out;have CL:=hid cl;clear cl;unfold zB at *;go_wp2_with fail;with_reducible refine CL.out.mono ?_
 rintro e w1 ⟨k,y,rfl,hh,kk⟩;have HM1:=hid (HMID.out.bl kk);clear HMID kk c0 c1 c2 q0 q1 d0 d1 d2 r0 r1 r2;unfold zt;rcases hh with ⟨rfl,hh⟩|⟨rfl,hx,hh⟩
 ·have HH:=hid hh;clear hh;have HM2:=hid (HM1.out.bl (Bl.new w1 (.cells #[.int .i64 2,.int .u64 y] 31)));obtain ⟨d0,d1,d2,r0,r1,r2⟩:=row3 HM2.out.stop;obtain ⟨f0,f1,g0,g1⟩:=row2 (zzn w1 (.cells #[.int .i64 2,.int .u64 y] 31));go_upto_region 13 with (fail);generalize w1.alloc (.cells #[.int .i64 2,.int .u64 y] 31)=V2 at *;go_region
  all_goals (
   (try go_wp2_with fail)
   obtain ⟨s1,s2,s3,s4⟩:=(HM2.out.bl ((Bl.refl _).drew)).fin 4 2 y;refine zzb (zt33 rfl _ _ w.heap.size rfl (s1) rfl) rfl ?_;exact ⟨badO 4 2 y,M,rfl,zO.scBad y (by simp) HM.out HH.out,s2,s3,s4⟩)
 ·have HH:=hid hh;clear hh;subst hx;have HM2:=hid (HM1.out.bl (Bl.new w1 (.cells #[.int .i64 0,.int .u64 0] 31)));obtain ⟨c0,c1,c2⟩:=HM2.out.hart.cells;unfold zB at c2;obtain ⟨d0,d1,d2,r0,r1,r2⟩:=row3 HM2.out.stop;obtain ⟨f0,f1,g0,g1⟩:=row2 (zzn w1 (.cells #[.int .i64 0,.int .u64 0] 31));go_upto_region 14 with (fail);generalize w1.alloc (.cells #[.int .i64 0,.int .u64 0] 31)=V2 at *;have hcase:((hn != 8)=true∧¬ (ha=a∧hn=8))∨((hn != 8)=false∧(ha != (a:Int))=true∧¬ (ha=a∧hn=8))∨((hn != 8)=false∧(ha != (a:Int))=false∧(ha=a∧hn=8)):=by
   by_cases e1:hn=8
   ·by_cases e2:ha=a
    ·exact .inr (.inr ⟨by simp [e1],by simp [e2],e2,e1⟩)
    ·exact .inr (.inl ⟨by simp [e1],by simp [e2],fun h=>e2 h.1⟩)
   ·exact .inl ⟨by simp [e1],fun h=>e1 h.2⟩
  rcases hcase with ⟨t2,hno⟩|⟨t2,t3,hno⟩|⟨t2,t3,hyes⟩
  ·have HNO:=hid hno;clear hno;go_wp2_with fail;obtain ⟨s1,s2,s3,s4⟩:=HM2.out.fin 0 0 0;refine zzb (zt33 rfl _ _ w.heap.size rfl (s1) rfl) rfl ?_;exact ⟨⟨1,0,0,0,0,0⟩,M,rfl,zO.scNo (by simp) HM.out HH.out HNO.out,s2,s3,s4⟩
  ·have HNO:=hid hno;clear hno;go_wp2_with fail;obtain ⟨s1,s2,s3,s4⟩:=HM2.out.fin 0 0 0;refine zzb (zt33 rfl _ _ w.heap.size rfl (s1) rfl) rfl ?_;exact ⟨⟨1,0,0,0,0,0⟩,M,rfl,zO.scNo (by simp) HM.out HH.out HNO.out,s2,s3,s4⟩
  ·have HYES:=hid hyes;clear hyes;have cst:=zGc HM2.out.rp a x HA.out;have CST:=hid cst;clear cst;unfold zB at CST;go_wp2_with fail;with_reducible refine CST.out.mono ?_
   rintro e w3 ⟨k,z,rfl,hs⟩;rcases hs with ⟨hk,z1,z2,z3,_⟩|⟨hk,hz,_,hrp,hfr⟩
   ·exact absurd (HH.out z z1 z2) z3
   ·have HM3:=hid (HM2.out.zJV hrp hfr);clear hrp hfr c0 c1 c2 d0 d1 d2 r0 r1 r2 f0 f1 g0 g1;obtain ⟨d0,d1,d2,r0,r1,r2⟩:=row3 HM3.out.stop;go_wp2_with fail;obtain ⟨s1,s2,s3,s4⟩:=HM3.out.fin 0 0 0;refine zzb (zt33 rfl _ _ w.heap.size rfl (s1) rfl) rfl ?_;exact ⟨⟨0,0,0,0,0,0⟩,_,rfl,zO.scYes (by simp) HM.out HH.out HYES.out,s2,s3,s4⟩
end
end Go.Proofs.YtlhpodholnfppaaGreatDoor
