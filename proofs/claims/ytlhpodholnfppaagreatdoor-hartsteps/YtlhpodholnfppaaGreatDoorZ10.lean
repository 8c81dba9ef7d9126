/-
  Part of the proof.
-/
import Derived.Test.YtlhpodholnfppaaGreatDoorZ9
import Derived.Deep.WholeRow
set_option linter.unusedVariables false
set_option linter.unusedSimpArgs false
set_option maxHeartbeats 16000000
set_option maxRecDepth 100000
set_option linter.defProp false
open Go.Lib (hid)
namespace Go.Proofs.YtlhpodholnfppaaGreatDoor
open Go.Proofs.Tryz
open Go.RowKit
def zi (g b:Nat) (w8 w9:World):Prop:=∀ p v,w8.cell? p=some v→(p.block=g∨p.block=b)→w9.cell? p=some v
variable {B b cb g hb n n0 sb:Nat} {V Z w w' w1 w4 w8 w9:World}
theorem zi.bl (k:Bl w8 w9):zi g b w8 w9:=fun p v h _=>k.cell' h
variable {T U:Nat→Prop}
theorem zi.fr (k:Fr U w8 w9) (h1:¬ U g) (h2:¬ U b):zi g b w8 w9:=fun p v h e=>zCW h k (by rcases e with e|e<;>rw [e]<;>assumption)
theorem zi.trans {w7:World} (h:zi g b w7 w8) (k:zi g b w8 w9):zi g b w7 w9:=fun p v e q=>k p v (h p v e q) q
theorem zi.set {f:Nat} (h:zi g b w8 w9) (h1:g≠f) (h2:b≠f) (i:Nat) (u:Value):zi g b w8 (w9.setCell ⟨f,i,none⟩ u):=
 h.trans (zi.fr (U:=only f) (Fr.set (S:=only f) (p:=⟨f,i,none⟩) rfl _) h1 h2)
theorem zi.rfl':zi g b w w:=fun _ _ h _=>h
variable {o:Obj}
theorem zi.alloc (h:zi g b w8 w9):zi g b w8 (w9.alloc o):=h.trans (zi.bl (Bl.new _ _))
theorem zi.drew (h:zi g b w8 w9):zi g b w8 w9.drew:=h.trans (zi.bl (Bl.refl _).drew)
theorem zi.set_ {f i:Nat} {u:Value} (h:zi g b w8 w9) (h1:g≠f) (h2:b≠f):zi g b w8 (w9.setCell ⟨f,i,none⟩ u):=h.set h1 h2 i u
variable {v0 v1 v2 v3 v4 v5 v6:Value}
theorem zIc {i3 i4:Nat} (k:zi g b w8 w9) (h:w8.cell? ⟨g,0,none⟩=some v0∧w8.cell? ⟨g,2,none⟩=some v1∧w8.cell? ⟨g,3,none⟩=some v2∧w8.cell? ⟨b,i3,none⟩=some v3∧w8.cell? ⟨b,i4,none⟩=some v4∧w8.cell? ⟨b,33,none⟩=some v5∧w8.cell? ⟨b,34,none⟩=some v6):
  w9.cell? ⟨g,0,none⟩=some v0∧w9.cell? ⟨g,2,none⟩=some v1∧w9.cell? ⟨g,3,none⟩=some v2∧w9.cell? ⟨b,i3,none⟩=some v3∧w9.cell? ⟨b,i4,none⟩=some v4∧w9.cell? ⟨b,33,none⟩=some v5∧w9.cell? ⟨b,34,none⟩=some v6:=
 ⟨k _ _ h.1 (.inl rfl),k _ _ h.2.1 (.inl rfl),k _ _ h.2.2.1 (.inl rfl),k _ _ h.2.2.2.1 (.inr rfl),k _ _ h.2.2.2.2.1 (.inr rfl),k _ _ h.2.2.2.2.2.1 (.inr rfl),k _ _ h.2.2.2.2.2.2 (.inr rfl)⟩
section
variable {T:Nat→Prop} {w:World} {b sb n:Nat} {pc ha hn:Int} {xs:List Int} {L:List Rg} {M st:Nat→Int} {mo ba en:Int}
structure AtZ (T:Nat→Prop) (w:World) (i:Td.Ins) (hi b sb n:Nat) (pc:Int) (xs:List Int) (ha hn:Int) (L:List Rg) (M st M':Nat→Int) (mo ba en:Int) (Z:World):Prop where
 ms:∃ st',Grow M M' st st'∧MS (gap T w.heap.size hi) Z sb n L M' st' mo ba en
 fr:Fr T w Z
 res:Z.heap[w.heap.size+1]?=some (.cells #[.int .i64 0,.int .i64 0,.int .u64 0] 33 (0,0))
 box:Z.heap[w.heap.size]?=some (.cells (Td.I7 i.op i.rd i.r1 i.r2 i.im i.od i.sz) 38 (0,0))
 stt:StAt Z b pc xs ha hn
 hi_:w.heap.size+1<hi
variable {M':Nat→Int} {i:Td.Ins}
theorem AtZ.alloc {hi:Nat} (h:AtZ T w i hi b sb n pc xs ha hn L M st M' mo ba en Z) (o:Obj):AtZ T w i hi b sb n pc xs ha hn L M st M' mo ba en (Z.alloc o):=by
 obtain ⟨st',hg,h1⟩:=h.ms;have h2:=h.box;exact ⟨⟨st',hg,h1.bl (Bl.new _ _)⟩,h.fr.trans (Fr.zP (Bl.new _ _)),(Bl.new _ _).at_ h.res,(Bl.new _ _).at_ h2,h.stt.bl (Bl.new _ _),h.hi_⟩
theorem AtZ.set {hi f:Nat} (h:AtZ T w i hi b sb n pc xs ha hn L M st M' mo ba en Z) (hf:w.heap.size+1<f) (hf2:f<hi) (hb:b<w.heap.size) (j:Nat) (u:Value):AtZ T w i hi b sb n pc xs ha hn L M st M' mo ba en (Z.setCell ⟨f,j,none⟩ u):=by
 obtain ⟨st',hg,h1⟩:=h.ms;have h2:=h.box;have k:Fr (only f) Z (Z.setCell ⟨f,j,none⟩ u):=Fr.set (S:=only f) (p:=⟨f,j,none⟩) rfl _;exact ⟨⟨st',hg,h1.kept k (fun b e e2=>e.2 (by have e3:b=f:=e2;omega))⟩,h.fr.zH (p:=⟨f,j,none⟩) (by show w.heap.size≤f;omega) _,k.at_ h.res (fun e=>by have e3:w.heap.size+1=f:=e;omega),k.at_ h2 (fun e=>by have e3:w.heap.size=f:=e;omega),h.stt.fr k (fun e=>by have e3:b=f:=e;omega),h.hi_⟩
theorem alloc_at2 (w4:World) (f:Nat) (u v:Value) (i j:Nat) (o:Obj):(((w4.setCell ⟨f,i,none⟩ u).setCell ⟨f,j,none⟩ v).alloc o).heap[w4.heap.size]?=some o:=by
 have:=zzn ((w4.setCell ⟨f,i,none⟩ u).setCell ⟨f,j,none⟩ v) o
 rwa [show ((w4.setCell ⟨f,i,none⟩ u).setCell ⟨f,j,none⟩ v).heap.size=w4.heap.size by simp [World.setCell]] at this
theorem alloc_at3 (w4:World) (f:Nat) (u v x:Value) (i j l:Nat) (o:Obj):((((w4.setCell ⟨f,i,none⟩ u).setCell ⟨f,j,none⟩ v).setCell ⟨f,l,none⟩ x).alloc o).heap[w4.heap.size]?=some o:=by
 have:=zzn (((w4.setCell ⟨f,i,none⟩ u).setCell ⟨f,j,none⟩ v).setCell ⟨f,l,none⟩ x) o
 rwa [show (((w4.setCell ⟨f,i,none⟩ u).setCell ⟨f,j,none⟩ v).setCell ⟨f,l,none⟩ x).heap.size=w4.heap.size by simp [World.setCell]] at this
def zHC (T:Nat→Prop) (w:World) (b sb n:Nat) (pc:Int) (xs:List Int) (ha hn:Int) (L:List Rg) (M st:Nat→Int) (mo ba en:Int) (i:Td.Ins) (e:Ending) (w':World):Prop:=
 ∃ o M',zO L M ha hn i.op (rx xs i.r1).toNat (rx xs i.r2) o M'∧e=.returned (if o.k=0 then zAD 0 0 0 else zAD o.k o.fk o.fa)∧(∃ st',Grow M M' st st'∧MS T w' sb (n+9) L M' st' mo ba en)∧(o.k=0→StAt w' b pc (setX xs i.rd o.y) o.ta o.tn)∧Fr (fun x=>T x∨x=b) w w'
variable {im op r1 r2 rd:Int}
theorem zIR {od sz:Int} (hst:StAt w b pc xs ha hn) (kV:Bl w V) (hb:V.heap[w.heap.size]?=some (.cells (Td.I7 op rd r1 r2 im od sz) 38 (0,0))) (hr:V.heap[w.heap.size+1]?=some (.cells #[.int .i64 0,.int .i64 0,.int .u64 0] 33 (0,0)))
 (hms:∃ st',Grow M M' st st'∧MS (gap T w.heap.size V.heap.size) w4 sb n L M' st' mo ba en) (hfr:Fr (gap T w.heap.size V.heap.size) V w4) (hTb:¬ T b):AtZ T w ⟨op,rd,r1,r2,im,od,sz⟩ V.heap.size b sb n pc xs ha hn L M st M' mo ba en w4:=by
 have hl:=zG hr;exact ⟨hms,(Fr.zP kV).trans hfr.zBW,hfr.at_ hr (zAS hl (Nat.le_succ _)),hfr.at_ hb (zAS (by omega) (zzr _)),(hst.bl kV).fr hfr (zAu hTb),hl⟩
theorem haAtomic_any (h:StAt w b pc xs ha hn) (hR:Regs xs) (hm:MS T w sb n L M st mo ba en) (hTb:¬ T b) (hn0:n<80000000) (hT:∀ b,w.heap.size≤b→T b) (i:Td.Ins) (hd:0≤i.rd∧i.rd<32) (hr:0≤i.r1∧i.r1<32) (hr2:0≤i.r2∧i.r2<32) :
  Calls prog 87 #[zB b,zB sb,.agg i.cells] w (zHC T w b sb n pc xs ha hn L M st mo ba en i):=by
 have K0:=hid ((Bl.new w (.cells i.cells 38)).alloc (.cells #[.int .i64 0,.int .i64 0,.int .u64 0] 33));obtain ⟨b0,b1⟩:=zBf w (.cells i.cells 38) (.cells #[.int .i64 0,.int .i64 0,.int .u64 0] 33);obtain ⟨a,haa⟩:=zze (hR.rx i.r1).1;have hab:a<2^64:=by have:=(hR.rx i.r1).2;omega
 obtain ⟨x,hx⟩:∃ x,x=rx xs i.r2:=⟨_,rfl⟩;have hxb:=hR.rx i.r2;rw [← hx] at hxb;have CS:=hid (fun W (k:Bl w W)=>step_any (hm.gap k w.heap.size W.heap.size (zzr _)) ha hn i.op a x hab hxb.1 hxb.2 hn0 (zCA hT w.heap.size k.size));have CP:=hid (fun V a n y (g:StAt V b pc xs a n)=>zFu g hR i.rd hd y);have H:=hid h;clear h;have HT:=hid hT;clear hT;have HTB:=hid hTb;clear hTb;have hlt:=H.out.lt;unfold zHC;rw [haa,← hx];simp only [Int.toNat_natCast];obtain ⟨r,hr3⟩:=zze hr.1;obtain ⟨s,hs3⟩:=zze hr2.1;have hr':r<32:=by omega
 have hs':s<32:=by omega
 rw [hr3] at haa;rw [hs3] at hx;clear hm hab hn0 hR hr hr2 hxb;have B0:=hid b0;clear b0;have B1:=hid b1;clear b1;obtain ⟨op,rd,r1,r2,im,od,sz⟩:=i;simp only at hr3 hs3 CS CP;subst hr3 hs3;have HX:=hid hx;clear hx;have HAA:=hid haa;clear haa;have i1:(0:Int)≤(r:Int):=by omega
 have i2:(r:Int)<32:=by omega
 have i3:(0:Int)≤(s:Int):=by omega
 have i4:(s:Int)<32:=by omega
 unfold zB zAR at *;go_enter func87,ntmps87;go_upto_region 1 with (fail);generalize (w.alloc (.cells (Td.I7 op rd r s im od sz) 38)).alloc (.cells #[.int .i64 0,.int .i64 0,.int .u64 0] 33)=W at *;have hstW:=H.out.bl K0.out;have c3:=hstW.rx r hr';have c4:=hstW.rx s hs';rw [← HX.out] at c4;rw [HAA.out] at c3;obtain ⟨c5,c6⟩:=hstW.hold;obtain ⟨d0,d1,d2,d3,d4,d5,d6⟩:=zI B0.out;have HS:=hid (And.intro d0 (And.intro d2 (And.intro d3 (And.intro c3 (And.intro c4 (And.intro c5 c6))))));have HW:=hid hstW;clear d0 d1 d2 d3 d4 d5 d6 c3 c4 c5 c6 hstW
 go_region_held3 (fun w'=>w'.cell? ⟨w.heap.size,0,none⟩=some (.int .i64 op)∧w'.cell? ⟨w.heap.size,2,none⟩=some (.int .i64 r)∧w'.cell? ⟨w.heap.size,3,none⟩=some (.int .i64 s)∧w'.cell? ⟨b,1+r,none⟩=some (.int .u64 a)∧w'.cell? ⟨b,1+s,none⟩=some (.int .u64 x)∧w'.cell? ⟨b,33,none⟩=some (.int .u64 ha)∧w'.cell? ⟨b,34,none⟩=some (.int .i64 hn)) (first|(refine zIc (w8:=w4) ?_ hkk;((repeat' (first|with_reducible apply zi.rfl'|with_reducible apply zi.set_|with_reducible apply zi.alloc|with_reducible apply zi.drew))<;>(have h1:=zG B1.out;omega)))|(refine zIc (w8:=W) ?_ HS.out;((repeat' (first|with_reducible apply zi.rfl'|with_reducible apply zi.set_|with_reducible apply zi.alloc|with_reducible apply zi.drew))<;>(have h1:=zG B1.out;omega)))) (first
  | (go_at_call 132;with_reducible refine (CS.out ((W.alloc (.cells #[.int .u64 0,.int .i64 0] 45)).alloc (.cells #[.int .i64 0,.int .i64 0,.int .u64 0] 33)).drew ((K0.out.alloc _).alloc _).drew).mono ?_;rintro e w4 hh;unfold zAd at hh;obtain ⟨⟨y,ta,tn,k,fk,fa⟩,M',rfl,hs,hms,hfr⟩:=hh;have HLT:=hid (zG (((Bl.new W (.cells #[.int .u64 0,.int .i64 0] 45)).alloc (.cells #[.int .i64 0,.int .i64 0,.int .u64 0] 33)).drew.at_ B1.out));have hkk:=zIc (w9:=w4) ((zi.bl (((Bl.refl W).alloc _).alloc _).drew).trans (zi.fr hfr (zAS (Nat.lt_of_succ_lt HLT.out) (zzr _)) (zAu HTB.out))) HS.out;have HZ:=hid (zIR H.out ((K0.out.alloc _).alloc _).drew (((Bl.new W (.cells #[.int .u64 0,.int .i64 0] 45)).alloc (.cells #[.int .i64 0,.int .i64 0,.int .u64 0] 33)).drew.at_ B0.out) (((Bl.new W (.cells #[.int .u64 0,.int .i64 0] 45)).alloc (.cells #[.int .i64 0,.int .i64 0,.int .u64 0] 33)).drew.at_ B1.out) hms hfr HTB.out);have FA:=hid (hfr.at_ (zU ((Bl.new (W.alloc (.cells #[.int .u64 0,.int .i64 0] 45)) (.cells #[.int .i64 0,.int .i64 0,.int .u64 0] 33)).at_ (zzn W (.cells #[.int .u64 0,.int .i64 0] 45)))) (zAS (zG (zU ((Bl.new (W.alloc (.cells #[.int .u64 0,.int .i64 0] 45)) (.cells #[.int .i64 0,.int .i64 0,.int .u64 0] 33)).at_ (zzn W (.cells #[.int .u64 0,.int .i64 0] 45))))) (Nat.le_of_lt (by have h1:=zG B1.out;first|omega|(simp only [World.alloc,Array.size_push];omega)))));obtain ⟨p0,p1,p2,p3⟩:=row2 FA.out;have hlA:=zG FA.out;have FB:=hid (hfr.at_ (zU (zBB W (.cells #[.int .u64 0,.int .i64 0] 45) (.cells #[.int .i64 0,.int .i64 0,.int .u64 0] 33))) (zAS (zG (zU (zBB W (.cells #[.int .u64 0,.int .i64 0] 45) (.cells #[.int .i64 0,.int .i64 0,.int .u64 0] 33)))) (Nat.le_of_lt (by have h1:=zG B1.out;first|omega|(simp only [World.alloc,Array.size_push];omega)))));obtain ⟨q0,q1,q2⟩:=zD FB.out;have q3:=free_at FB.out;have hlB:=zG FB.out;(try unfold Out.v);(try unfold zAR zAD))
  | (go_at_call 132;with_reducible refine (CS.out ((W.alloc (.cells #[.int .i64 0,.int .i64 0,.int .u64 0] 33)).alloc (.cells #[.int .u64 0,.int .i64 0] 45)).drew ((K0.out.alloc _).alloc _).drew).mono ?_;rintro e w4 hh;unfold zAd at hh;obtain ⟨⟨y,ta,tn,k,fk,fa⟩,M',rfl,hs,hms,hfr⟩:=hh;have HLT:=hid (zG (((Bl.new W (.cells #[.int .i64 0,.int .i64 0,.int .u64 0] 33)).alloc (.cells #[.int .u64 0,.int .i64 0] 45)).drew.at_ B1.out));have hkk:=zIc (w9:=w4) ((zi.bl (((Bl.refl W).alloc _).alloc _).drew).trans (zi.fr hfr (zAS (Nat.lt_of_succ_lt HLT.out) (zzr _)) (zAu HTB.out))) HS.out;have HZ:=hid (zIR H.out ((K0.out.alloc _).alloc _).drew (((Bl.new W (.cells #[.int .i64 0,.int .i64 0,.int .u64 0] 33)).alloc (.cells #[.int .u64 0,.int .i64 0] 45)).drew.at_ B0.out) (((Bl.new W (.cells #[.int .i64 0,.int .i64 0,.int .u64 0] 33)).alloc (.cells #[.int .u64 0,.int .i64 0] 45)).drew.at_ B1.out) hms hfr HTB.out);have FB:=hid (hfr.at_ (zU ((Bl.new (W.alloc (.cells #[.int .i64 0,.int .i64 0,.int .u64 0] 33)) (.cells #[.int .u64 0,.int .i64 0] 45)).at_ (zzn W (.cells #[.int .i64 0,.int .i64 0,.int .u64 0] 33)))) (zAS (zG (zU ((Bl.new (W.alloc (.cells #[.int .i64 0,.int .i64 0,.int .u64 0] 33)) (.cells #[.int .u64 0,.int .i64 0] 45)).at_ (zzn W (.cells #[.int .i64 0,.int .i64 0,.int .u64 0] 33))))) (Nat.le_of_lt (by have h1:=zG B1.out;first|omega|(simp only [World.alloc,Array.size_push];omega)))));obtain ⟨q0,q1,q2⟩:=zD FB.out;have q3:=free_at FB.out;have hlB:=zG FB.out;have FA:=hid (hfr.at_ (zU (zBB W (.cells #[.int .i64 0,.int .i64 0,.int .u64 0] 33) (.cells #[.int .u64 0,.int .i64 0] 45))) (zAS (zG (zU (zBB W (.cells #[.int .i64 0,.int .i64 0,.int .u64 0] 33) (.cells #[.int .u64 0,.int .i64 0] 45)))) (Nat.le_of_lt (by have h1:=zG B1.out;first|omega|(simp only [World.alloc,Array.size_push];omega)))));obtain ⟨p0,p1,p2,p3⟩:=row2 FA.out;have hlA:=zG FA.out;(try unfold Out.v);(try unfold zAR zAD))
  | (go_at_call 132;with_reducible refine (CS.out (W.alloc (.cells #[.int .u64 0,.int .i64 0] 45)).drew (K0.out.alloc _).drew).mono ?_;rintro e w4 hh;unfold zAd at hh;obtain ⟨⟨y,ta,tn,k,fk,fa⟩,M',rfl,hs,hms,hfr⟩:=hh;have HLT:=hid (zG ((Bl.new W (.cells #[.int .u64 0,.int .i64 0] 45)).drew.at_ B1.out));have hkk:=zIc (w9:=w4) ((zi.bl ((Bl.refl W).alloc _).drew).trans (zi.fr hfr (zAS (Nat.lt_of_succ_lt HLT.out) (zzr _)) (zAu HTB.out))) HS.out;have HZ:=hid (zIR H.out (K0.out.alloc _).drew ((Bl.new W (.cells #[.int .u64 0,.int .i64 0] 45)).drew.at_ B0.out) ((Bl.new W (.cells #[.int .u64 0,.int .i64 0] 45)).drew.at_ B1.out) hms hfr HTB.out);have FA:=hid (hfr.at_ (zU (zzn W (.cells #[.int .u64 0,.int .i64 0] 45))) (zAS (zG (zU (zzn W (.cells #[.int .u64 0,.int .i64 0] 45)))) (Nat.le_of_lt (by have h1:=zG B1.out;first|omega|(simp only [World.alloc,Array.size_push];omega)))));obtain ⟨p0,p1,p2,p3⟩:=row2 FA.out;have hlA:=zG FA.out;(try unfold Out.v);(try unfold zAR zAD))
  | (go_at_call 132;with_reducible refine (CS.out (W.alloc (.cells #[.int .i64 0,.int .i64 0,.int .u64 0] 33)).drew (K0.out.alloc _).drew).mono ?_;rintro e w4 hh;unfold zAd at hh;obtain ⟨⟨y,ta,tn,k,fk,fa⟩,M',rfl,hs,hms,hfr⟩:=hh;have HLT:=hid (zG ((Bl.new W (.cells #[.int .i64 0,.int .i64 0,.int .u64 0] 33)).drew.at_ B1.out));have hkk:=zIc (w9:=w4) ((zi.bl ((Bl.refl W).alloc _).drew).trans (zi.fr hfr (zAS (Nat.lt_of_succ_lt HLT.out) (zzr _)) (zAu HTB.out))) HS.out;have HZ:=hid (zIR H.out (K0.out.alloc _).drew ((Bl.new W (.cells #[.int .i64 0,.int .i64 0,.int .u64 0] 33)).drew.at_ B0.out) ((Bl.new W (.cells #[.int .i64 0,.int .i64 0,.int .u64 0] 33)).drew.at_ B1.out) hms hfr HTB.out);have FB:=hid (hfr.at_ (zU (zzn W (.cells #[.int .i64 0,.int .i64 0,.int .u64 0] 33))) (zAS (zG (zU (zzn W (.cells #[.int .i64 0,.int .i64 0,.int .u64 0] 33)))) (Nat.le_of_lt (by have h1:=zG B1.out;first|omega|(simp only [World.alloc,Array.size_push];omega)))));obtain ⟨q0,q1,q2⟩:=zD FB.out;have q3:=free_at FB.out;have hlB:=zG FB.out;(try unfold Out.v);(try unfold zAR zAD))
  | (go_at_call 132;with_reducible refine (CS.out W.drew K0.out.drew).mono ?_;rintro e w4 hh;unfold zAd at hh;obtain ⟨⟨y,ta,tn,k,fk,fa⟩,M',rfl,hs,hms,hfr⟩:=hh;have HLT:=hid (zG ((Bl.refl W).drew.at_ B1.out));have hkk:=zIc (w9:=w4) ((zi.bl (Bl.refl W).drew).trans (zi.fr hfr (zAS (Nat.lt_of_succ_lt HLT.out) (zzr _)) (zAu HTB.out))) HS.out;have HZ:=hid (zIR H.out K0.out.drew ((Bl.refl W).drew.at_ B0.out) ((Bl.refl W).drew.at_ B1.out) hms hfr HTB.out);(try unfold Out.v);(try unfold zAR zAD)))
 all_goals (
  have HB_:=hid HLT.out;first
  | (
   generalize hZ:(w4.alloc (.cells #[.int .u64 ta,.int .i64 tn] 45)).alloc (.cells #[.int .i64 k,.int .i64 fk,.int .u64 fa] 33)=Z
   (fail_if_success clear hZ Z)
   have az:AtZ T w _ _ b sb (n+9) pc xs ha hn L M st M' mo ba en ((w4.alloc (.cells #[.int .u64 ta,.int .i64 tn] 45)).alloc (.cells #[.int .i64 k,.int .i64 fk,.int .u64 fa] 33)):=(HZ.out.alloc _).alloc _;have F1:Hid (((w4.alloc (.cells #[.int .u64 ta,.int .i64 tn] 45)).alloc (.cells #[.int .i64 k,.int .i64 fk,.int .u64 fa] 33)).heap[w4.heap.size]?=some (.cells #[.int .u64 ta,.int .i64 tn] 45 (0,0))):=hid ((Bl.new _ _).at_ (zzn w4 (.cells #[.int .u64 ta,.int .i64 tn] 45)));have F2:Hid (((w4.alloc (.cells #[.int .u64 ta,.int .i64 tn] 45)).alloc (.cells #[.int .i64 k,.int .i64 fk,.int .u64 fa] 33)).heap[w4.heap.size+1]?=some (.cells #[.int .i64 k,.int .i64 fk,.int .u64 fa] 33 (0,0))):=hid (zBB w4 (.cells #[.int .u64 ta,.int .i64 tn] 45) (.cells #[.int .i64 k,.int .i64 fk,.int .u64 fa] 33));have n1:w.heap.size+1<w4.heap.size:=(by have h1:=zG B1.out;have h2:=zG HZ.out.res;omega);have n2:w.heap.size+1<w4.heap.size+1:=(by have h1:=zG B1.out;have h2:=zG HZ.out.res;omega);rw [hZ] at az F1 F2;clear hZ;generalize hf1:w4.heap.size=f1 at *;generalize hf2:w4.heap.size+1=f2 at *)
  | (
   generalize hZ:(w4.alloc (.cells #[.int .i64 k,.int .i64 fk,.int .u64 fa] 33)).alloc (.cells #[.int .u64 ta,.int .i64 tn] 45)=Z
   (fail_if_success clear hZ Z)
   have az:AtZ T w _ _ b sb (n+9) pc xs ha hn L M st M' mo ba en ((w4.alloc (.cells #[.int .i64 k,.int .i64 fk,.int .u64 fa] 33)).alloc (.cells #[.int .u64 ta,.int .i64 tn] 45)):=(HZ.out.alloc _).alloc _;have F1:Hid (((w4.alloc (.cells #[.int .i64 k,.int .i64 fk,.int .u64 fa] 33)).alloc (.cells #[.int .u64 ta,.int .i64 tn] 45)).heap[w4.heap.size+1]?=some (.cells #[.int .u64 ta,.int .i64 tn] 45 (0,0))):=hid (zBB w4 (.cells #[.int .i64 k,.int .i64 fk,.int .u64 fa] 33) (.cells #[.int .u64 ta,.int .i64 tn] 45));have F2:Hid (((w4.alloc (.cells #[.int .i64 k,.int .i64 fk,.int .u64 fa] 33)).alloc (.cells #[.int .u64 ta,.int .i64 tn] 45)).heap[w4.heap.size]?=some (.cells #[.int .i64 k,.int .i64 fk,.int .u64 fa] 33 (0,0))):=hid ((Bl.new _ _).at_ (zzn w4 (.cells #[.int .i64 k,.int .i64 fk,.int .u64 fa] 33)));have n1:w.heap.size+1<w4.heap.size+1:=(by have h1:=zG B1.out;have h2:=zG HZ.out.res;omega);have n2:w.heap.size+1<w4.heap.size:=(by have h1:=zG B1.out;have h2:=zG HZ.out.res;omega);rw [hZ] at az F1 F2;clear hZ;generalize hf1:w4.heap.size+1=f1 at *;generalize hf2:w4.heap.size=f2 at *)
  | (
   generalize hZ:((w4.setCell ⟨W.heap.size,0,none⟩ (.int .u64 ta)).setCell ⟨W.heap.size,1,none⟩ (.int .i64 tn)).alloc (.cells #[.int .i64 k,.int .i64 fk,.int .u64 fa] 33)=Z
   (fail_if_success clear hZ Z)
   have az:AtZ T w _ _ b sb (n+9) pc xs ha hn L M st M' mo ba en (((w4.setCell ⟨W.heap.size,0,none⟩ (.int .u64 ta)).setCell ⟨W.heap.size,1,none⟩ (.int .i64 tn)).alloc (.cells #[.int .i64 k,.int .i64 fk,.int .u64 fa] 33)):=AtZ.alloc ((HZ.out.set (by have h1:=zG B1.out;have h2:=zG HZ.out.res;omega) (by have h1:=zG B1.out;first|omega|(simp only [World.alloc,World.drew,Array.size_push];omega)) hlt _ _).set (by have h1:=zG B1.out;have h2:=zG HZ.out.res;omega) (by have h1:=zG B1.out;first|omega|(simp only [World.alloc,World.drew,Array.size_push];omega)) hlt _ _) _;have F1:Hid ((((w4.setCell ⟨W.heap.size,0,none⟩ (.int .u64 ta)).setCell ⟨W.heap.size,1,none⟩ (.int .i64 tn)).alloc (.cells #[.int .i64 k,.int .i64 fk,.int .u64 fa] 33)).heap[W.heap.size]?=some (.cells #[.int .u64 ta,.int .i64 tn] 45 (0,0))):=hid ((Bl.new _ _).at_ (set2 _ _ FA.out));have F2:Hid ((((w4.setCell ⟨W.heap.size,0,none⟩ (.int .u64 ta)).setCell ⟨W.heap.size,1,none⟩ (.int .i64 tn)).alloc (.cells #[.int .i64 k,.int .i64 fk,.int .u64 fa] 33)).heap[w4.heap.size]?=some (.cells #[.int .i64 k,.int .i64 fk,.int .u64 fa] 33 (0,0))):=hid (alloc_at2 _ _ _ _ _ _ _);have n1:w.heap.size+1<W.heap.size:=(by have h1:=zG B1.out;have h2:=zG HZ.out.res;omega);have n2:w.heap.size+1<w4.heap.size:=(by have h1:=zG B1.out;have h2:=zG HZ.out.res;omega);rw [hZ] at az F1 F2;clear hZ;generalize hf1:W.heap.size=f1 at *;generalize hf2:w4.heap.size=f2 at *)
  | (
   generalize hZ:(((((w4.setCell ⟨W.heap.size,0,none⟩ (.int .u64 ta)).setCell ⟨W.heap.size,1,none⟩ (.int .i64 tn)).setCell ⟨W.heap.size+1,0,none⟩ (.int .i64 k)).setCell ⟨W.heap.size+1,1,none⟩ (.int .i64 fk)).setCell ⟨W.heap.size+1,2,none⟩ (.int .u64 fa))=Z
   (fail_if_success clear hZ Z)
   have az:AtZ T w _ _ b sb (n+9) pc xs ha hn L M st M' mo ba en ((((((w4.setCell ⟨W.heap.size,0,none⟩ (.int .u64 ta)).setCell ⟨W.heap.size,1,none⟩ (.int .i64 tn)).setCell ⟨W.heap.size+1,0,none⟩ (.int .i64 k)).setCell ⟨W.heap.size+1,1,none⟩ (.int .i64 fk)).setCell ⟨W.heap.size+1,2,none⟩ (.int .u64 fa))):=(((((HZ.out.set (by have h1:=zG B1.out;have h2:=zG HZ.out.res;omega) (by have h1:=zG B1.out;first|omega|(simp only [World.alloc,World.drew,Array.size_push];omega)) hlt _ _).set (by have h1:=zG B1.out;have h2:=zG HZ.out.res;omega) (by have h1:=zG B1.out;first|omega|(simp only [World.alloc,World.drew,Array.size_push];omega)) hlt _ _).set (by have h1:=zG B1.out;have h2:=zG HZ.out.res;omega) (by have h1:=zG B1.out;first|omega|(simp only [World.alloc,World.drew,Array.size_push];omega)) hlt _ _).set (by have h1:=zG B1.out;have h2:=zG HZ.out.res;omega) (by have h1:=zG B1.out;first|omega|(simp only [World.alloc,World.drew,Array.size_push];omega)) hlt _ _).set (by have h1:=zG B1.out;have h2:=zG HZ.out.res;omega) (by have h1:=zG B1.out;first|omega|(simp only [World.alloc,World.drew,Array.size_push];omega)) hlt _ _);have F1:Hid (((((((w4.setCell ⟨W.heap.size,0,none⟩ (.int .u64 ta)).setCell ⟨W.heap.size,1,none⟩ (.int .i64 tn)).setCell ⟨W.heap.size+1,0,none⟩ (.int .i64 k)).setCell ⟨W.heap.size+1,1,none⟩ (.int .i64 fk)).setCell ⟨W.heap.size+1,2,none⟩ (.int .u64 fa))).heap[W.heap.size]?=some (.cells #[.int .u64 ta,.int .i64 tn] 45 (0,0))):=hid ((oth (oth (oth (set2 _ _ FA.out) (p:=⟨W.heap.size+1,0,none⟩) (by show W.heap.size+1≠_;omega) _) (p:=⟨W.heap.size+1,1,none⟩) (by show W.heap.size+1≠_;omega) _) (p:=⟨W.heap.size+1,2,none⟩) (by show W.heap.size+1≠_;omega) _))
   have F2:Hid (((((((w4.setCell ⟨W.heap.size,0,none⟩ (.int .u64 ta)).setCell ⟨W.heap.size,1,none⟩ (.int .i64 tn)).setCell ⟨W.heap.size+1,0,none⟩ (.int .i64 k)).setCell ⟨W.heap.size+1,1,none⟩ (.int .i64 fk)).setCell ⟨W.heap.size+1,2,none⟩ (.int .u64 fa))).heap[W.heap.size+1]?=some (.cells #[.int .i64 k,.int .i64 fk,.int .u64 fa] 33 (0,0))):=hid (set3 _ _ _ (oth (oth FB.out (p:=⟨W.heap.size,0,none⟩) (by show W.heap.size≠_;omega) _) (p:=⟨W.heap.size,1,none⟩) (by show W.heap.size≠_;omega) _));have n1:w.heap.size+1<W.heap.size:=(by have h1:=zG B1.out;have h2:=zG HZ.out.res;omega);have n2:w.heap.size+1<W.heap.size+1:=(by have h1:=zG B1.out;have h2:=zG HZ.out.res;omega);rw [hZ] at az F1 F2;clear hZ;generalize hf1:W.heap.size=f1 at *;generalize hf2:W.heap.size+1=f2 at *)
  | (
   generalize hZ:(((w4.setCell ⟨W.heap.size,0,none⟩ (.int .i64 k)).setCell ⟨W.heap.size,1,none⟩ (.int .i64 fk)).setCell ⟨W.heap.size,2,none⟩ (.int .u64 fa)).alloc (.cells #[.int .u64 ta,.int .i64 tn] 45)=Z
   (fail_if_success clear hZ Z)
   have az:AtZ T w _ _ b sb (n+9) pc xs ha hn L M st M' mo ba en ((((w4.setCell ⟨W.heap.size,0,none⟩ (.int .i64 k)).setCell ⟨W.heap.size,1,none⟩ (.int .i64 fk)).setCell ⟨W.heap.size,2,none⟩ (.int .u64 fa)).alloc (.cells #[.int .u64 ta,.int .i64 tn] 45)):=AtZ.alloc (((HZ.out.set (by have h1:=zG B1.out;have h2:=zG HZ.out.res;omega) (by have h1:=zG B1.out;first|omega|(simp only [World.alloc,World.drew,Array.size_push];omega)) hlt _ _).set (by have h1:=zG B1.out;have h2:=zG HZ.out.res;omega) (by have h1:=zG B1.out;first|omega|(simp only [World.alloc,World.drew,Array.size_push];omega)) hlt _ _).set (by have h1:=zG B1.out;have h2:=zG HZ.out.res;omega) (by have h1:=zG B1.out;first|omega|(simp only [World.alloc,World.drew,Array.size_push];omega)) hlt _ _) _;have F1:Hid (((((w4.setCell ⟨W.heap.size,0,none⟩ (.int .i64 k)).setCell ⟨W.heap.size,1,none⟩ (.int .i64 fk)).setCell ⟨W.heap.size,2,none⟩ (.int .u64 fa)).alloc (.cells #[.int .u64 ta,.int .i64 tn] 45)).heap[w4.heap.size]?=some (.cells #[.int .u64 ta,.int .i64 tn] 45 (0,0))):=hid (alloc_at3 _ _ _ _ _ _ _ _ _);have F2:Hid (((((w4.setCell ⟨W.heap.size,0,none⟩ (.int .i64 k)).setCell ⟨W.heap.size,1,none⟩ (.int .i64 fk)).setCell ⟨W.heap.size,2,none⟩ (.int .u64 fa)).alloc (.cells #[.int .u64 ta,.int .i64 tn] 45)).heap[W.heap.size]?=some (.cells #[.int .i64 k,.int .i64 fk,.int .u64 fa] 33 (0,0))):=hid ((Bl.new _ _).at_ (set3 _ _ _ FB.out));have n1:w.heap.size+1<w4.heap.size:=(by have h1:=zG B1.out;have h2:=zG HZ.out.res;omega);have n2:w.heap.size+1<W.heap.size:=(by have h1:=zG B1.out;have h2:=zG HZ.out.res;omega);rw [hZ] at az F1 F2;clear hZ;generalize hf1:w4.heap.size=f1 at *;generalize hf2:W.heap.size=f2 at *)
  | (
   generalize hZ:(((((w4.setCell ⟨W.heap.size+1,0,none⟩ (.int .u64 ta)).setCell ⟨W.heap.size+1,1,none⟩ (.int .i64 tn)).setCell ⟨W.heap.size,0,none⟩ (.int .i64 k)).setCell ⟨W.heap.size,1,none⟩ (.int .i64 fk)).setCell ⟨W.heap.size,2,none⟩ (.int .u64 fa))=Z
   (fail_if_success clear hZ Z)
   have az:AtZ T w _ _ b sb (n+9) pc xs ha hn L M st M' mo ba en ((((((w4.setCell ⟨W.heap.size+1,0,none⟩ (.int .u64 ta)).setCell ⟨W.heap.size+1,1,none⟩ (.int .i64 tn)).setCell ⟨W.heap.size,0,none⟩ (.int .i64 k)).setCell ⟨W.heap.size,1,none⟩ (.int .i64 fk)).setCell ⟨W.heap.size,2,none⟩ (.int .u64 fa))):=(((((HZ.out.set (by have h1:=zG B1.out;have h2:=zG HZ.out.res;omega) (by have h1:=zG B1.out;first|omega|(simp only [World.alloc,World.drew,Array.size_push];omega)) hlt _ _).set (by have h1:=zG B1.out;have h2:=zG HZ.out.res;omega) (by have h1:=zG B1.out;first|omega|(simp only [World.alloc,World.drew,Array.size_push];omega)) hlt _ _).set (by have h1:=zG B1.out;have h2:=zG HZ.out.res;omega) (by have h1:=zG B1.out;first|omega|(simp only [World.alloc,World.drew,Array.size_push];omega)) hlt _ _).set (by have h1:=zG B1.out;have h2:=zG HZ.out.res;omega) (by have h1:=zG B1.out;first|omega|(simp only [World.alloc,World.drew,Array.size_push];omega)) hlt _ _).set (by have h1:=zG B1.out;have h2:=zG HZ.out.res;omega) (by have h1:=zG B1.out;first|omega|(simp only [World.alloc,World.drew,Array.size_push];omega)) hlt _ _);have F1:Hid (((((((w4.setCell ⟨W.heap.size+1,0,none⟩ (.int .u64 ta)).setCell ⟨W.heap.size+1,1,none⟩ (.int .i64 tn)).setCell ⟨W.heap.size,0,none⟩ (.int .i64 k)).setCell ⟨W.heap.size,1,none⟩ (.int .i64 fk)).setCell ⟨W.heap.size,2,none⟩ (.int .u64 fa))).heap[W.heap.size+1]?=some (.cells #[.int .u64 ta,.int .i64 tn] 45 (0,0))):=hid ((oth (oth (oth (set2 _ _ FA.out) (p:=⟨W.heap.size,0,none⟩) (by show W.heap.size≠_;omega) _) (p:=⟨W.heap.size,1,none⟩) (by show W.heap.size≠_;omega) _) (p:=⟨W.heap.size,2,none⟩) (by show W.heap.size≠_;omega) _))
   have F2:Hid (((((((w4.setCell ⟨W.heap.size+1,0,none⟩ (.int .u64 ta)).setCell ⟨W.heap.size+1,1,none⟩ (.int .i64 tn)).setCell ⟨W.heap.size,0,none⟩ (.int .i64 k)).setCell ⟨W.heap.size,1,none⟩ (.int .i64 fk)).setCell ⟨W.heap.size,2,none⟩ (.int .u64 fa))).heap[W.heap.size]?=some (.cells #[.int .i64 k,.int .i64 fk,.int .u64 fa] 33 (0,0))):=hid (set3 _ _ _ (oth (oth FB.out (p:=⟨W.heap.size+1,0,none⟩) (by show W.heap.size+1≠_;omega) _) (p:=⟨W.heap.size+1,1,none⟩) (by show W.heap.size+1≠_;omega) _));have n1:w.heap.size+1<W.heap.size+1:=(by have h1:=zG B1.out;have h2:=zG HZ.out.res;omega);have n2:w.heap.size+1<W.heap.size:=(by have h1:=zG B1.out;have h2:=zG HZ.out.res;omega);rw [hZ] at az F1 F2;clear hZ;generalize hf1:W.heap.size+1=f1 at *;generalize hf2:W.heap.size=f2 at *)
  clear hkk HZ CS HS hms hfr HW;have AZ:=hid az;clear az;have HIS:=hid hs;clear hs;obtain ⟨c0,c1,c2⟩:=zD F2.out;have z1:=free_at AZ.out.res;obtain ⟨e0,e1,e2⟩:=zD AZ.out.res;(try simp only [Exit.inBlock,Exit.then])
  by_cases hk:k=0
  ·subst hk;have hst:=AZ.out.stt;obtain ⟨_,g1,_⟩:=zI AZ.out.box;go_wp2_with fail;with_reducible refine (CP.out _ _ _ _ hst).mono ?_
   rintro e w5 ⟨rfl,h5,k5,z5⟩;have G1:=hid (k5.at_ F1.out (fun e=>by have e3:f1=b:=e;omega));have G2:=hid (k5.at_ AZ.out.res (fun e=>by have e3:w.heap.size+1=b:=e;omega));have H5:=hid h5;clear h5;have K5:=hid k5;clear k5;clear c0 c1 c2 e0 e1 e2 g1 z1 hst;obtain ⟨c0,c1,c2,c3⟩:=row2 G1.out;obtain ⟨e0,e1,e2⟩:=zD G2.out;have z1:=free_at G2.out;obtain ⟨g0,g1⟩:=H5.out.hold;have z2:=H5.out.free;go_wp2_with fail;(try simp only [Exit.inBlock,Exit.then])
   have h6:=H5.out.setHold ta tn;have k6:Fr (only b) w5 ((w5.setCell ⟨b,33,none⟩ (.int .u64 ta)).setCell ⟨b,34,none⟩ (.int .i64 tn)):=(Fr.set (S:=only b) (p:=⟨b,33,none⟩) rfl _).trans (Fr.set (S:=only b) (p:=⟨b,34,none⟩) rfl _);have G6:=k6.at_ G2.out (fun e=>by have e3:w.heap.size+1=b:=e;omega);generalize ((w5.setCell ⟨b,33,none⟩ (.int .u64 ta)).setCell ⟨b,34,none⟩ (.int .i64 tn))=Y at *;refine zzb (Td.zAk rfl _ _ (w.heap.size+1) rfl (set3 (.int .i64 0) (.int .i64 0) (.int .u64 0) G6) rfl) rfl ?_;have k7:Fr (only (w.heap.size+1)) Y (((Y.setCell ⟨w.heap.size+1,0,none⟩ (.int .i64 0)).setCell ⟨w.heap.size+1,1,none⟩ (.int .i64 0)).setCell ⟨w.heap.size+1,2,none⟩ (.int .u64 0)):=((Fr.set (S:=only (w.heap.size+1)) (p:=⟨w.heap.size+1,0,none⟩) rfl _).trans (Fr.set (S:=only (w.heap.size+1)) (p:=⟨w.heap.size+1,1,none⟩) rfl _)).trans (Fr.set (S:=only (w.heap.size+1)) (p:=⟨w.heap.size+1,2,none⟩) rfl _);obtain ⟨st',hg6,hm6⟩:=AZ.out.ms;have hm7:=((hm6.kept K5.out (fun x e e2=>HTB.out (by rw [← show x=b from e2];exact e.1))).kept k6 (fun x e e2=>HTB.out (by rw [← show x=b from e2];exact e.1))).kept k7 (fun x e e2=>e.2 (by have e3:x=w.heap.size+1:=e2;have:=AZ.out.hi_;omega));refine ⟨⟨y,ta,tn,0,fk,fa⟩,M',HIS.out,by rw [if_pos rfl];rfl,⟨st',hg6,hm7.zBW⟩,fun _=>h6.fr k7 (fun e=>by have e3:b=w.heap.size+1:=e;omega),?_⟩;have f9:Fr (fun x=>T x∨x=b) w Y:=((AZ.out.fr.mono fun x _ e=>.inl e).trans (K5.out.mono fun x _ e=>.inr e)).trans (k6.mono fun x _ e=>.inr e);exact ((f9.zH (p:=⟨w.heap.size+1,0,none⟩) (by simp) _).zH (p:=⟨w.heap.size+1,1,none⟩) (by simp) _).zH (p:=⟨w.heap.size+1,2,none⟩) (by simp) _
  ·have hk':=nin hk;go_wp2_with fail;refine zzb (Td.zAk rfl _ _ (w.heap.size+1) rfl (set3 (.int .i64 k) (.int .i64 fk) (.int .u64 fa) AZ.out.res) rfl) rfl ?_;have k7:Fr (only (w.heap.size+1)) Z (((Z.setCell ⟨w.heap.size+1,0,none⟩ (.int .i64 k)).setCell ⟨w.heap.size+1,1,none⟩ (.int .i64 fk)).setCell ⟨w.heap.size+1,2,none⟩ (.int .u64 fa)):=((Fr.set (S:=only (w.heap.size+1)) (p:=⟨w.heap.size+1,0,none⟩) rfl _).trans (Fr.set (S:=only (w.heap.size+1)) (p:=⟨w.heap.size+1,1,none⟩) rfl _)).trans (Fr.set (S:=only (w.heap.size+1)) (p:=⟨w.heap.size+1,2,none⟩) rfl _);obtain ⟨st',hg6,hm6⟩:=AZ.out.ms;have hm7:=hm6.kept k7 (fun x e e2=>e.2 (by have e3:x=w.heap.size+1:=e2;have:=AZ.out.hi_;omega));refine ⟨⟨y,ta,tn,k,fk,fa⟩,M',HIS.out,by rw [if_neg hk];rfl,⟨st',hg6,hm7.zBW⟩,fun e=>absurd e hk,?_⟩;exact (((AZ.out.fr.mono (fun x _ e=>.inl e)).zH (p:=⟨w.heap.size+1,0,none⟩) (by simp) _).zH (p:=⟨w.heap.size+1,1,none⟩) (by simp) _).zH (p:=⟨w.heap.size+1,2,none⟩) (by simp) _)
end
section
variable {T:Nat→Prop} {w:World} {b sb n:Nat} {s:St} {L:List Rg} {M st:Nat→Int} {mo ba en:Int}
def zFR (T:Nat→Prop) (w:World) (b sb n:Nat) (s:St) (L:List Rg) (M st:Nat→Int) (mo ba en:Int) (i:Td.Ins) (e:Ending) (w':World):Prop:=
 ∃ k fk fa s' M',DoIs L M s i k fk fa s' M'∧e=.returned (zAD k fk fa)∧(∃ st',Grow M M' st st'∧MS T w' sb (n+9) L M' st' mo ba en)∧(k=0→StAt w' b s'.pc s'.xs s'.ha s'.hn)∧Fr (fun x=>T x∨x=b) w w'
variable {M':Nat→Int}
theorem zCC {hi:Nat} {k:Int} {s':St} {z0 z1 z2:Value} (v0 v1 v2:Value) (hres:Z.heap[w.heap.size+1]?=some (.cells #[z0,z1,z2] 33 (0,0))) (hms:∃ st',Grow M M' st st'∧MS (gap T w.heap.size hi) Z sb n L M' st' mo ba en) (hhi:w.heap.size+1<hi) (hfr:Fr (fun x=>T x∨x=b) w Z) (hst:k=0→StAt Z b s'.pc s'.xs s'.ha s'.hn) (hb:b<w.heap.size):
  (((Z.setCell ⟨w.heap.size+1,0,none⟩ v0).setCell ⟨w.heap.size+1,1,none⟩ v1).setCell ⟨w.heap.size+1,2,none⟩ v2).heap[w.heap.size+1]?=some (.cells #[v0,v1,v2] 33 (0,0)) ∧
  (∃ st',Grow M M' st st'∧MS T (((Z.setCell ⟨w.heap.size+1,0,none⟩ v0).setCell ⟨w.heap.size+1,1,none⟩ v1).setCell ⟨w.heap.size+1,2,none⟩ v2) sb n L M' st' mo ba en)∧(k=0→StAt (((Z.setCell ⟨w.heap.size+1,0,none⟩ v0).setCell ⟨w.heap.size+1,1,none⟩ v1).setCell ⟨w.heap.size+1,2,none⟩ v2) b s'.pc s'.xs s'.ha s'.hn) ∧
  Fr (fun x=>T x∨x=b) w (((Z.setCell ⟨w.heap.size+1,0,none⟩ v0).setCell ⟨w.heap.size+1,1,none⟩ v1).setCell ⟨w.heap.size+1,2,none⟩ v2):=by
 have k7:Fr (only (w.heap.size+1)) Z (((Z.setCell ⟨w.heap.size+1,0,none⟩ v0).setCell ⟨w.heap.size+1,1,none⟩ v1).setCell ⟨w.heap.size+1,2,none⟩ v2):=((Fr.set (S:=only (w.heap.size+1)) (p:=⟨w.heap.size+1,0,none⟩) rfl _).trans (Fr.set (S:=only (w.heap.size+1)) (p:=⟨w.heap.size+1,1,none⟩) rfl _)).trans (Fr.set (S:=only (w.heap.size+1)) (p:=⟨w.heap.size+1,2,none⟩) rfl _);obtain ⟨st',hg,h1⟩:=hms;exact ⟨set3 _ _ _ hres,⟨st',hg,(h1.kept k7 (fun x e e2=>e.2 (by have e3:x=w.heap.size+1:=e2;omega))).zBW⟩,fun e=>(hst e).fr k7 (fun e=>by have e3:b=w.heap.size+1:=e;omega),
  ((hfr.zH (p:=⟨w.heap.size+1,0,none⟩) (by simp) _).zH (p:=⟨w.heap.size+1,1,none⟩) (by simp) _).zH (p:=⟨w.heap.size+1,2,none⟩) (by simp) _⟩
structure DoV (T:Nat→Prop) (w:World) (b sb n:Nat) (pc:Int) (xs:List Int) (ha hn:Int) (L:List Rg) (M st:Nat→Int) (mo ba en:Int) (i:Td.Ins) (V:World):Prop where
 stt:StAt V b pc xs ha hn
 box:V.heap[w.heap.size]?=some (.cells (Td.I7 i.op i.rd i.r1 i.r2 i.im i.od i.sz) 38 (0,0))
 res:V.heap[w.heap.size+1]?=some (.cells #[.int .i64 0,.int .i64 0,.int .u64 0] 33 (0,0))
 ms:MS (gap T w.heap.size V.heap.size) V sb n L M st mo ba en
 fr:Fr (only b) w V
 size:w.heap.size+1<V.heap.size
variable {ha' hn hn' op pc':Int} {xs xs':List Int} {i:Td.Ins}
theorem DoV.mono {pc ha:Int} (h:DoV T w b sb n pc xs ha hn L M st mo ba en i V) (hn9:n≤n+9):∃ st',Grow M M st st'∧MS (gap T w.heap.size V.heap.size) V sb (n+9) L M st' mo ba en:=⟨st,Grow.refl M st,h.ms.mono hn9⟩
theorem zKV {pc ha:Int} (h:StAt w b pc xs ha hn) (hm:MS T w sb n L M st mo ba en) (hTb:¬ T b) (p:Int):
  DoV T w b sb n p xs ha hn L M st mo ba en i (((w.alloc (.cells i.cells 38)).alloc (.cells #[.int .i64 0,.int .i64 0,.int .u64 0] 33)).setCell ⟨b,0,none⟩ (.int .u64 p)):=by
 have k0:Bl w ((w.alloc (.cells i.cells 38)).alloc (.cells #[.int .i64 0,.int .i64 0,.int .u64 0] 33)):=(Bl.new _ _).alloc _;obtain ⟨b0,b1⟩:=zBf w (.cells i.cells 38) (.cells #[.int .i64 0,.int .i64 0,.int .u64 0] 33);have hl:=h.lt;generalize (w.alloc (.cells i.cells 38)).alloc (.cells #[.int .i64 0,.int .i64 0,.int .u64 0] 33)=W at *;have f:Fr (only b) W (W.setCell ⟨b,0,none⟩ (.int .u64 p)):=Fr.set (S:=only b) (p:=⟨b,0,none⟩) rfl _;have hs:(W.setCell ⟨b,0,none⟩ (.int .u64 p)).heap.size=W.heap.size:=by simp [World.setCell]
 have hl1:=zG b1;refine ⟨(h.bl k0).zCl p,f.at_ b0 (fun e=>by have e3:w.heap.size=b:=e;omega),f.at_ b1 (fun e=>by have e3:w.heap.size+1=b:=e;omega),?_,(Fr.zP k0).trans f,by rw [hs];exact hl1⟩;rw [hs];exact (hm.gap k0 w.heap.size W.heap.size (zzr _)).kept f (fun x e e2=>hTb (by rw [← show x=b from e2];exact e.1))
theorem DoV.turn {pc ha:Int} (h:DoV T w b sb n pc xs ha hn L M st mo ba en i V) (hTb:¬ T b) (hb:b<w.heap.size) (k:Fr (only b) V Z) (hs:StAt Z b pc' xs' ha' hn'):
  Z.heap[w.heap.size+1]?=some (.cells #[.int .i64 0,.int .i64 0,.int .u64 0] 33 (0,0))∧(∃ st',Grow M M st st'∧MS (gap T w.heap.size V.heap.size) Z sb (n+9) L M st' mo ba en)∧Fr (fun x=>T x∨x=b) w Z:=
 ⟨k.at_ h.res (fun e=>by have e3:w.heap.size+1=b:=e;omega),⟨st,Grow.refl M st,(h.ms.kept k (fun x e e2=>hTb (by rw [← show x=b from e2];exact e.1))).mono (by omega)⟩,(h.fr.mono fun x _ e=>.inr e).trans (k.mono fun x _ e=>.inr e)⟩
theorem zAt (h:¬ (5≤op∧op≤10)) (w:World):Calls prog 80 #[.int .i64 op] w fun e w'=>e=.returned (.bool false)∧w=w':=by
 have:=zEr op w;rwa [zzf h] at this
theorem zBy (h:¬ (11≤op∧op≤17)) (w:World):Calls prog 82 #[.int .i64 op] w fun e w'=>e=.returned (.bool false)∧w=w':=by
 have:=zGu op w;rwa [zzf h] at this
theorem zBr (h:¬ (18≤op∧op≤21)) (w:World):Calls prog 84 #[.int .i64 op] w fun e w'=>e=.returned (.bool false)∧w=w':=by
 have:=zGC op w;rwa [zzf h] at this
theorem isBranch_yes (h:5≤op∧op≤10) (w:World):Calls prog 80 #[.int .i64 op] w fun e w'=>e=.returned (.bool true)∧w=w':=by
 have:=zEr op w;rwa [decide_eq_true h] at this
theorem isLoad_yes (h:11≤op∧op≤17) (w:World):Calls prog 82 #[.int .i64 op] w fun e w'=>e=.returned (.bool true)∧w=w':=by
 have:=zGu op w;rwa [decide_eq_true h] at this
theorem isStore_yes (h:18≤op∧op≤21) (w:World):Calls prog 84 #[.int .i64 op] w fun e w'=>e=.returned (.bool true)∧w=w':=by
 have:=zGC op w;rwa [decide_eq_true h] at this
theorem zCf (h:op<63∨84<op) (w:World):Calls prog 86 #[.int .i64 op] w fun e w'=>e=.returned (.int .i64 0)∧w=w':=by
 have h1:=zAQ op w;have h2:awid op=0:=by rcases zFL op with h3|h3<;>omega
 rwa [h2] at h1
theorem zII {b:Nat} (k:zi g b w8 w9) (h:w8.cell? ⟨g,0,none⟩=some v0∧w8.cell? ⟨g,1,none⟩=some v1∧w8.cell? ⟨g,2,none⟩=some v2∧w8.cell? ⟨g,3,none⟩=some v3∧w8.cell? ⟨g,4,none⟩=some v4∧w8.cell? ⟨g,5,none⟩=some v5∧w8.cell? ⟨g,6,none⟩=some v6):w9.cell? ⟨g,0,none⟩=some v0∧w9.cell? ⟨g,1,none⟩=some v1∧w9.cell? ⟨g,2,none⟩=some v2∧w9.cell? ⟨g,3,none⟩=some v3∧w9.cell? ⟨g,4,none⟩=some v4∧w9.cell? ⟨g,5,none⟩=some v5∧w9.cell? ⟨g,6,none⟩=some v6:=
 ⟨k _ _ h.1 (.inl rfl),k _ _ h.2.1 (.inl rfl),k _ _ h.2.2.1 (.inl rfl),k _ _ h.2.2.2.1 (.inl rfl),k _ _ h.2.2.2.2.1 (.inl rfl),k _ _ h.2.2.2.2.2.1 (.inl rfl),k _ _ h.2.2.2.2.2.2 (.inl rfl)⟩
theorem andNot64 (a:Nat) (h:a<18446744073709551616):bits .andNot .u64 (a:Int) 1=(a:Int)/2*2:=by
 have h1:=u64_andNot_nat a 1 h (by decide);rw [show ((1:Nat):Int)=1 from rfl] at h1;rw [h1,show (a:Int)/2*2=((a/2*2:Nat):Int) by omega]
 congr 1
 refine Nat.eq_of_testBit_eq fun i=>?_
 rw [show a/2*2=(a >>> 1) <<< 1 by rw [Nat.shiftLeft_eq,Nat.shiftRight_eq_div_pow],show 18446744073709551615 - 1=(2^63 - 1) <<< 1 by decide,Nat.testBit_and,Nat.testBit_shiftLeft,Nat.testBit_shiftLeft,Nat.testBit_shiftRight,Nat.testBit_two_pow_sub_one];by_cases h0:1≤i
 ·rw [show 1+(i - 1)=i by omega];by_cases h6:i<64
  ·simp [h0,show i - 1<63 by omega]
  ·rw [Nat.testBit_lt_two_pow (x:=a) (i:=i) (Nat.lt_of_lt_of_le h (show 2^64≤2^i from Nat.pow_le_pow_right (by decide) (by omega)))];simp
 ·simp [h0]
theorem zFc {L:List Rg} {M:Nat→Int} {ha:Int} {a:Nat} {x:Int} {o:Out} (h:zO L M ha hn op a x o M') (hk:o.k=0):o.fk=0∧o.fa=0:=by
 cases h<;>first|exact ⟨rfl,rfl⟩|(simp only [badO] at hk;omega)
theorem zKC {b:Nat} (h:b<g):¬ only b g:=fun e=>by have e3:g=b:=e;omega
theorem haDo_jumps (h:StAt w b s.pc s.xs s.ha s.hn) (hR:Regs s.xs) (hm:MS T w sb n L M st mo ba en) (hTb:¬ T b) (hn0:n<80000000) (hT:∀ b,w.heap.size≤b→T b) (i:Td.Ins) (hd:0≤i.rd∧i.rd<32) (hr:0≤i.r1∧i.r1<32) (hr2:0≤i.r2∧i.r2<32) (hc:i.op=2∨i.op=3∨i.op=4) :
  Calls prog 51 #[zB b,zB sb,.agg i.cells] w (zFR T w b sb n s L M st mo ba en i):=by
 have K0:=hid ((Bl.new w (.cells i.cells 38)).alloc (.cells #[.int .i64 0,.int .i64 0,.int .u64 0] 33));obtain ⟨b0,b1⟩:=zBf w (.cells i.cells 38) (.cells #[.int .i64 0,.int .i64 0,.int .u64 0] 33);have DV:=hid (zKV (i:=i) h hm hTb (s.nxt i));have hlt:=h.lt;have hstW:=h.bl K0.out;have HR:=hid hR;have HT:=hid hT;clear hT;have HTB:=hid hTb;clear hTb;have HC:=hid hc;clear hc;have HN:=hid hn0;clear hn0;clear h hm hR;have B0:=hid b0;clear b0;obtain ⟨pc,xs,ha,hn⟩:=s;obtain ⟨op,rd,r1,r2,im,od,sz⟩:=i;simp only [St.nxt] at hd hr hr2 hstW HR HC DV;unfold zB at *;go_enter func51,ntmps51;go_upto_region 1 with (fail);generalize (w.alloc (.cells (Td.I7 op rd r1 r2 im od sz) 38)).alloc (.cells #[.int .i64 0,.int .i64 0,.int .u64 0] 33)=W at *;have c0:=hstW.pc_;have z0:=hstW.free 0;obtain ⟨d0,d1,d2,d3,d4,d5,d6⟩:=zI B0.out;go_upto_region 5 with (fail);generalize hN:IntKind.u64.wrap (pc+IntKind.u64.wrap sz)=np at *;generalize W.setCell ⟨b,0,none⟩ (.int .u64 np)=V at *;have HN9:=hid hN;clear hN;clear c0 z0 d0 d1 d2 d3 d4 d5 d6 hstW B0 K0 b1;obtain ⟨d0,d1,d2,d3,d4,d5,d6⟩:=zI DV.out.box;simp only at d0 d1 d2 d3 d4 d5 d6;obtain ⟨e0,e1,e2⟩:=zD DV.out.res;have z0:=free_at DV.out.res;have hsz:=DV.out.size;rcases HC.out with rfl|rfl|rfl
 ·have CP:=hid (zFu DV.out.stt HR.out rd hd (IntKind.u64.wrap (pc+IntKind.u64.wrap im)));unfold zB at CP;go_wp2_with fail;with_reducible refine CP.out.mono ?_
  rintro e W1 ⟨rfl,g1,f1,y1⟩;obtain ⟨r1',r2',r3'⟩:=DV.out.turn HTB.out hlt f1 g1;have R1:=hid r1';clear r1';have R2:=hid r2';clear r2';have R3:=hid r3';clear r3';have G1:=hid g1;clear g1;clear f1 d0 d1 d2 d3 d4 d5 d6 e0 e1 e2 z0;obtain ⟨e0,e1,e2⟩:=zD R1.out;have z0:=free_at R1.out;go_wp2_with fail;obtain ⟨s1,s2,s3,s4⟩:=zCC (k:=0) (s':=⟨np,setX xs rd (IntKind.u64.wrap (pc+IntKind.u64.wrap im)),ha,hn⟩) (.int .i64 0) (.int .i64 0) (.int .u64 0) R1.out R2.out hsz R3.out (fun _=>G1.out) hlt;refine zzb (Td.zAk rfl _ _ (w.heap.size+1) rfl s1 rfl) rfl ?_;exact ⟨0,0,0,⟨np,setX xs rd (IntKind.u64.wrap (pc+IntKind.u64.wrap im)),ha,hn⟩,M,(by have:=DoIs.auipc (L:=L) (M:=M) (s:=⟨pc,xs,ha,hn⟩) (i:=⟨2,rd,r1,r2,im,od,sz⟩) rfl;unfold St.nxt at this;simp only at this;rw [HN9.out] at this;exact this),rfl,s2,s3,s4⟩
 ·have CJ:=hid (zFF DV.out.stt HR.out rd hd (IntKind.u64.wrap (pc+IntKind.u64.wrap im)));unfold zB at CJ;go_wp2_with fail;with_reducible refine CJ.out.mono ?_
  rintro e W1 ⟨rfl,g1,f1,y1⟩;obtain ⟨r1',r2',r3'⟩:=DV.out.turn HTB.out hlt f1 g1;have R1:=hid r1';clear r1';have R2:=hid r2';clear r2';have R3:=hid r3';clear r3';have G1:=hid g1;clear g1;clear f1 d0 d1 d2 d3 d4 d5 d6 e0 e1 e2 z0;obtain ⟨e0,e1,e2⟩:=zD R1.out;have z0:=free_at R1.out;go_wp2_with fail;obtain ⟨s1,s2,s3,s4⟩:=zCC (k:=0) (s':=⟨IntKind.u64.wrap (pc+IntKind.u64.wrap im),setX xs rd np,ha,hn⟩) (.int .i64 0) (.int .i64 0) (.int .u64 0) R1.out R2.out hsz R3.out (fun _=>G1.out) hlt;refine zzb (Td.zAk rfl _ _ (w.heap.size+1) rfl s1 rfl) rfl ?_;exact ⟨0,0,0,⟨IntKind.u64.wrap (pc+IntKind.u64.wrap im),setX xs rd np,ha,hn⟩,M,(by have:=DoIs.jal (L:=L) (M:=M) (s:=⟨pc,xs,ha,hn⟩) (i:=⟨3,rd,r1,r2,im,od,sz⟩) rfl;unfold St.nxt at this;simp only at this;rw [HN9.out] at this;exact this),rfl,s2,s3,s4⟩
 ·obtain ⟨a,haa⟩:=zze (show 0≤adr xs ⟨4,rd,r1,r2,im,od,sz⟩ from (zAK _).1);have hab:a<18446744073709551616:=by have:=(zAK (rx xs r1+IntKind.u64.wrap im)).2;unfold adr at haa;simp only at haa;omega
  have CA:=hid (fun U (k:Bl V U)=>zDv (DV.out.stt.bl k) ⟨4,rd,r1,r2,im,od,sz⟩ hr);simp only [haa] at CA;have CJ:=hid (fun U (k:Bl V U)=>zFF (DV.out.stt.bl k) HR.out rd hd ((a:Int)/2*2));have an:=andNot64 a hab;unfold zB at CA CJ;have HS:=hid (And.intro d0 (And.intro d1 (And.intro d2 (And.intro d3 (And.intro d4 (And.intro d5 d6))))));go_upto_region 10 with (fail);clear d0 d1 d2 d3 d4 d5 d6
  go_region_held3 (fun w'=>w'.cell? ⟨w.heap.size,0,none⟩=some (.int .i64 4)∧w'.cell? ⟨w.heap.size,1,none⟩=some (.int .i64 rd)∧w'.cell? ⟨w.heap.size,2,none⟩=some (.int .i64 r1)∧w'.cell? ⟨w.heap.size,3,none⟩=some (.int .i64 r2)∧w'.cell? ⟨w.heap.size,4,none⟩=some (.int .i64 im)∧w'.cell? ⟨w.heap.size,5,none⟩=some (.int .i64 od)∧w'.cell? ⟨w.heap.size,6,none⟩=some (.int .i64 sz)) (first|(refine zII (b:=b) (w8:=W2) ?_ hkk2;(repeat' (first|with_reducible apply zi.rfl'|with_reducible apply zi.drew)))|(refine zII (b:=b) (w8:=W1) ?_ hkk;(repeat' (first|with_reducible apply zi.rfl'|with_reducible apply zi.drew)))|(refine zII (b:=b) (w8:=V) ?_ HS.out;(repeat' (first|with_reducible apply zi.rfl'|with_reducible apply zi.drew)))) (first|(go_at_call 79;with_reducible refine (CA.out V.drew (Bl.refl V).drew).mono ?_;rintro e W1 ⟨rfl,k3⟩;have hkk:=zII (b:=b) ((zi.bl (Bl.refl V).drew).trans (zi.bl k3)) HS.out;have K3:=hid ((Bl.refl V).drew.trans k3))|(go_at_call 78;with_reducible refine (CJ.out W1 K3.out).mono ?_;rintro e W2 ⟨rfl,g1,f1',y1⟩;have hkk2:=zII (b:=w.heap.size) (g:=w.heap.size) (zi.fr (U:=only b) f1' (zKC hlt) (zKC hlt)) hkk;have f1:=(Fr.zP (S:=only b) K3.out).trans f1'))
  clear hkk hkk2 HS CA CJ K3;(try simp only [Exit.inBlock,Exit.then])
  obtain ⟨r1',r2',r3'⟩:=DV.out.turn HTB.out hlt f1 g1;have R1:=hid r1';clear r1';have R2:=hid r2';clear r2';have R3:=hid r3';clear r3';have G1:=hid g1;clear g1;clear f1 e0 e1 e2 z0;obtain ⟨e0,e1,e2⟩:=zD R1.out;have z0:=free_at R1.out;go_wp2_with fail;obtain ⟨s1,s2,s3,s4⟩:=zCC (k:=0) (s':=⟨(a:Int)/2*2,setX xs rd np,ha,hn⟩) (.int .i64 0) (.int .i64 0) (.int .u64 0) R1.out R2.out hsz R3.out (fun _=>G1.out) hlt;refine zzb (Td.zAk rfl _ _ (w.heap.size+1) rfl s1 rfl) rfl ?_;exact ⟨0,0,0,⟨(a:Int)/2*2,setX xs rd np,ha,hn⟩,M,(by have:=DoIs.jalr (L:=L) (M:=M) (s:=⟨pc,xs,ha,hn⟩) (i:=⟨4,rd,r1,r2,im,od,sz⟩) rfl;unfold St.nxt at this;simp only at this;rw [HN9.out,haa] at this;exact this),rfl,s2,s3,s4⟩
theorem haDo_plain (h:StAt w b s.pc s.xs s.ha s.hn) (hR:Regs s.xs) (hm:MS T w sb n L M st mo ba en) (hTb:¬ T b) (hn0:n<80000000) (hT:∀ b,w.heap.size≤b→T b) (i:Td.Ins) (hd:0≤i.rd∧i.rd<32) (hr:0≤i.r1∧i.r1<32) (hr2:0≤i.r2∧i.r2<32) (hc:(5≤i.op∧i.op≤10)∨i.op=85∨i.op=86∨i.op=87∨i.op=88∨(i.op=1∨(22≤i.op∧i.op≤62)∨i.op≤0∨88<i.op)) :
  Calls prog 51 #[zB b,zB sb,.agg i.cells] w (zFR T w b sb n s L M st mo ba en i):=by
 have K0:=hid ((Bl.new w (.cells i.cells 38)).alloc (.cells #[.int .i64 0,.int .i64 0,.int .u64 0] 33));obtain ⟨b0,b1⟩:=zBf w (.cells i.cells 38) (.cells #[.int .i64 0,.int .i64 0,.int .u64 0] 33);have DV:=hid (zKV (i:=i) h hm hTb (s.nxt i));have hlt:=h.lt;have hstW:=h.bl K0.out;have HR:=hid hR;have HT:=hid hT;clear hT;have HTB:=hid hTb;clear hTb;have HC:=hid hc;clear hc;have HN:=hid hn0;clear hn0;clear h hm hR;have B0:=hid b0;clear b0;obtain ⟨pc,xs,ha,hn⟩:=s;obtain ⟨op,rd,r1,r2,im,od,sz⟩:=i;simp only [St.nxt] at hd hr hr2 hstW HR HC DV;unfold zB at *;go_enter func51,ntmps51;go_upto_region 1 with (fail);generalize (w.alloc (.cells (Td.I7 op rd r1 r2 im od sz) 38)).alloc (.cells #[.int .i64 0,.int .i64 0,.int .u64 0] 33)=W at *;have c0:=hstW.pc_;have z0:=hstW.free 0;obtain ⟨d0,d1,d2,d3,d4,d5,d6⟩:=zI B0.out;go_upto_region 5 with (fail);generalize hN:IntKind.u64.wrap (pc+IntKind.u64.wrap sz)=np at *;generalize W.setCell ⟨b,0,none⟩ (.int .u64 np)=V at *;have HN9:=hid hN;clear hN;clear c0 z0 d0 d1 d2 d3 d4 d5 d6 hstW B0 K0 b1;obtain ⟨d0,d1,d2,d3,d4,d5,d6⟩:=zI DV.out.box;simp only at d0 d1 d2 d3 d4 d5 d6;obtain ⟨e0,e1,e2⟩:=zD DV.out.res;have z0:=free_at DV.out.res;have hsz:=DV.out.size;rcases HC.out with hc|rfl|rfl|rfl|rfl|hc
 ·clear HC;have q2:=nin (show ¬ op=2 by omega);have q3:=nin (show ¬ op=3 by omega);have q4:=nin (show ¬ op=4 by omega);have CB:=hid (fun W=>isBranch_yes hc W);have CJ:=hid (zDV (here:=pc) DV.out.stt ⟨op,rd,r1,r2,im,od,sz⟩ hc hr hr2);unfold zB at CJ;go_wp2_with (go_at_call 80;with_reducible refine (CB.out _).mono ?_;rintro e W1 ⟨rfl,rfl⟩);with_reducible refine CJ.out.mono ?_
  rintro e W1 ⟨rfl,g1,f1⟩;obtain ⟨r1',r2',r3'⟩:=DV.out.turn HTB.out hlt f1 g1;have R1:=hid r1';clear r1';have R2:=hid r2';clear r2';have R3:=hid r3';clear r3';have G1:=hid g1;clear g1;clear f1 d0 d1 d2 d3 d4 d5 d6 e0 e1 e2 z0;obtain ⟨e0,e1,e2⟩:=zD R1.out;have z0:=free_at R1.out;go_wp2_with fail;obtain ⟨s1,s2,s3,s4⟩:=zCC (k:=0) (s':=⟨brPc xs ⟨op,rd,r1,r2,im,od,sz⟩ np pc,xs,ha,hn⟩) (.int .i64 0) (.int .i64 0) (.int .u64 0) R1.out R2.out hsz R3.out (fun _=>G1.out) hlt;refine zzb (Td.zAk rfl _ _ (w.heap.size+1) rfl s1 rfl) rfl ?_;exact ⟨0,0,0,⟨brPc xs ⟨op,rd,r1,r2,im,od,sz⟩ np pc,xs,ha,hn⟩,M,(by have:=DoIs.branch (L:=L) (M:=M) (s:=⟨pc,xs,ha,hn⟩) (i:=⟨op,rd,r1,r2,im,od,sz⟩) hc;unfold St.nxt at this;simp only at this;rw [HN9.out] at this;exact this),rfl,s2,s3,s4⟩
 ·clear HC;have CB:=hid (fun W=>zAt (op:=85) (by omega) W);have CL:=hid (fun W=>zBy (op:=85) (by omega) W);have CS:=hid (fun W=>zBr (op:=85) (by omega) W);have CW:=hid (fun W=>zCf (op:=85) (by omega) W);go_wp2_with (first|(go_at_call 80;with_reducible refine (CB.out _).mono ?_;rintro e W1 ⟨rfl,rfl⟩)|(go_at_call 82;with_reducible refine (CL.out _).mono ?_;rintro e W1 ⟨rfl,rfl⟩)|(go_at_call 84;with_reducible refine (CS.out _).mono ?_;rintro e W1 ⟨rfl,rfl⟩)|(go_at_call 86;with_reducible refine (CW.out _).mono ?_;rintro e W1 ⟨rfl,rfl⟩));obtain ⟨s1,s2,s3,s4⟩:=zCC (k:=0) (s':=⟨np,xs,ha,hn⟩) (.int .i64 0) (.int .i64 0) (.int .u64 0) DV.out.res (DV.out.mono (by omega)) hsz (DV.out.fr.mono fun x _ e=>.inr e) (fun _=>DV.out.stt) hlt;refine zzb (Td.zAk rfl _ _ (w.heap.size+1) rfl s1 rfl) rfl ?_;exact ⟨0,0,0,⟨np,xs,ha,hn⟩,M,(by have:=DoIs.fence (L:=L) (M:=M) (s:=⟨pc,xs,ha,hn⟩) (i:=⟨85,rd,r1,r2,im,od,sz⟩) (.inl rfl);unfold St.nxt at this;simp only at this;rw [HN9.out] at this;exact this),rfl,s2,s3,s4⟩
 ·clear HC;have CB:=hid (fun W=>zAt (op:=86) (by omega) W);have CL:=hid (fun W=>zBy (op:=86) (by omega) W);have CS:=hid (fun W=>zBr (op:=86) (by omega) W);have CW:=hid (fun W=>zCf (op:=86) (by omega) W);go_wp2_with (first|(go_at_call 80;with_reducible refine (CB.out _).mono ?_;rintro e W1 ⟨rfl,rfl⟩)|(go_at_call 82;with_reducible refine (CL.out _).mono ?_;rintro e W1 ⟨rfl,rfl⟩)|(go_at_call 84;with_reducible refine (CS.out _).mono ?_;rintro e W1 ⟨rfl,rfl⟩)|(go_at_call 86;with_reducible refine (CW.out _).mono ?_;rintro e W1 ⟨rfl,rfl⟩));obtain ⟨s1,s2,s3,s4⟩:=zCC (k:=0) (s':=⟨np,xs,ha,hn⟩) (.int .i64 0) (.int .i64 0) (.int .u64 0) DV.out.res (DV.out.mono (by omega)) hsz (DV.out.fr.mono fun x _ e=>.inr e) (fun _=>DV.out.stt) hlt;refine zzb (Td.zAk rfl _ _ (w.heap.size+1) rfl s1 rfl) rfl ?_;exact ⟨0,0,0,⟨np,xs,ha,hn⟩,M,(by have:=DoIs.fence (L:=L) (M:=M) (s:=⟨pc,xs,ha,hn⟩) (i:=⟨86,rd,r1,r2,im,od,sz⟩) (.inr rfl);unfold St.nxt at this;simp only at this;rw [HN9.out] at this;exact this),rfl,s2,s3,s4⟩
 ·clear HC;have CB:=hid (fun W=>zAt (op:=87) (by omega) W);have CL:=hid (fun W=>zBy (op:=87) (by omega) W);have CS:=hid (fun W=>zBr (op:=87) (by omega) W);have CW:=hid (fun W=>zCf (op:=87) (by omega) W);go_wp2_with (first|(go_at_call 80;with_reducible refine (CB.out _).mono ?_;rintro e W1 ⟨rfl,rfl⟩)|(go_at_call 82;with_reducible refine (CL.out _).mono ?_;rintro e W1 ⟨rfl,rfl⟩)|(go_at_call 84;with_reducible refine (CS.out _).mono ?_;rintro e W1 ⟨rfl,rfl⟩)|(go_at_call 86;with_reducible refine (CW.out _).mono ?_;rintro e W1 ⟨rfl,rfl⟩));obtain ⟨s1,s2,s3,s4⟩:=zCC (k:=1) (s':=⟨pc,xs,0,0⟩) (.int .i64 1) (.int .i64 0) (.int .u64 0) DV.out.res (DV.out.mono (by omega)) hsz (DV.out.fr.mono fun x _ e=>.inr e) (fun e=>by cases e) hlt;refine zzb (Td.zAk rfl _ _ (w.heap.size+1) rfl s1 rfl) rfl ?_;exact ⟨1,0,0,⟨pc,xs,0,0⟩,M,(DoIs.ecall (L:=L) (M:=M) (s:=⟨pc,xs,ha,hn⟩) (i:=⟨87,rd,r1,r2,im,od,sz⟩) rfl),rfl,s2,s3,s4⟩
 ·clear HC;have CB:=hid (fun W=>zAt (op:=88) (by omega) W);have CL:=hid (fun W=>zBy (op:=88) (by omega) W);have CS:=hid (fun W=>zBr (op:=88) (by omega) W);have CW:=hid (fun W=>zCf (op:=88) (by omega) W);go_wp2_with (first|(go_at_call 80;with_reducible refine (CB.out _).mono ?_;rintro e W1 ⟨rfl,rfl⟩)|(go_at_call 82;with_reducible refine (CL.out _).mono ?_;rintro e W1 ⟨rfl,rfl⟩)|(go_at_call 84;with_reducible refine (CS.out _).mono ?_;rintro e W1 ⟨rfl,rfl⟩)|(go_at_call 86;with_reducible refine (CW.out _).mono ?_;rintro e W1 ⟨rfl,rfl⟩));obtain ⟨s1,s2,s3,s4⟩:=zCC (k:=2) (s':=⟨pc,xs,0,0⟩) (.int .i64 2) (.int .i64 0) (.int .u64 0) DV.out.res (DV.out.mono (by omega)) hsz (DV.out.fr.mono fun x _ e=>.inr e) (fun e=>by cases e) hlt;refine zzb (Td.zAk rfl _ _ (w.heap.size+1) rfl s1 rfl) rfl ?_;exact ⟨2,0,0,⟨pc,xs,0,0⟩,M,(DoIs.ebreak (L:=L) (M:=M) (s:=⟨pc,xs,ha,hn⟩) (i:=⟨88,rd,r1,r2,im,od,sz⟩) rfl),rfl,s2,s3,s4⟩
 ·clear HC;have q2:=nin (show ¬ op=2 by omega);have q3:=nin (show ¬ op=3 by omega);have q4:=nin (show ¬ op=4 by omega);have q85:=nin (show ¬ op=85 by omega);have q86:=nin (show ¬ op=86 by omega);have q87:=nin (show ¬ op=87 by omega);have q88:=nin (show ¬ op=88 by omega);have CB:=hid (fun W=>zAt (op:=op) (by omega) W);have CL:=hid (fun W=>zBy (op:=op) (by omega) W);have CS:=hid (fun W=>zBr (op:=op) (by omega) W);have CW:=hid (fun W=>zCf (op:=op) (by omega) W);have CJ:=hid (reckon_any DV.out.stt HR.out ⟨op,rd,r1,r2,im,od,sz⟩ hd hr hr2);unfold zB at CJ;go_wp2_with (first|(go_at_call 80;with_reducible refine (CB.out _).mono ?_;rintro e W1 ⟨rfl,rfl⟩)|(go_at_call 82;with_reducible refine (CL.out _).mono ?_;rintro e W1 ⟨rfl,rfl⟩)|(go_at_call 84;with_reducible refine (CS.out _).mono ?_;rintro e W1 ⟨rfl,rfl⟩)|(go_at_call 86;with_reducible refine (CW.out _).mono ?_;rintro e W1 ⟨rfl,rfl⟩));with_reducible refine CJ.out.mono ?_
  rintro e W1 ⟨rfl,g1,f1⟩;obtain ⟨r1',r2',r3'⟩:=DV.out.turn HTB.out hlt f1 g1;have R1:=hid r1';clear r1';have R2:=hid r2';clear r2';have R3:=hid r3';clear r3';have G1:=hid g1;clear g1;clear f1 d0 d1 d2 d3 d4 d5 d6 e0 e1 e2 z0;obtain ⟨e0,e1,e2⟩:=zD R1.out;have z0:=free_at R1.out;go_wp2_with fail;obtain ⟨s1,s2,s3,s4⟩:=zCC (k:=0) (s':=⟨np,setX xs rd (recV xs ⟨op,rd,r1,r2,im,od,sz⟩),ha,hn⟩) (.int .i64 0) (.int .i64 0) (.int .u64 0) R1.out R2.out hsz R3.out (fun _=>G1.out) hlt;refine zzb (Td.zAk rfl _ _ (w.heap.size+1) rfl s1 rfl) rfl ?_;exact ⟨0,0,0,⟨np,setX xs rd (recV xs ⟨op,rd,r1,r2,im,od,sz⟩),ha,hn⟩,M,(by have:=DoIs.reck (L:=L) (M:=M) (s:=⟨pc,xs,ha,hn⟩) (i:=⟨op,rd,r1,r2,im,od,sz⟩) hc;unfold St.nxt at this;simp only at this;rw [HN9.out] at this;exact this),rfl,s2,s3,s4⟩
theorem haDo_space (h:StAt w b s.pc s.xs s.ha s.hn) (hR:Regs s.xs) (hm:MS T w sb n L M st mo ba en) (hTb:¬ T b) (hn0:n<80000000) (hT:∀ b,w.heap.size≤b→T b) (i:Td.Ins) (hd:0≤i.rd∧i.rd<32) (hr:0≤i.r1∧i.r1<32) (hr2:0≤i.r2∧i.r2<32) (hc:(11≤i.op∧i.op≤17)∨(18≤i.op∧i.op≤21)∨(63≤i.op∧i.op≤84)) :
  Calls prog 51 #[zB b,zB sb,.agg i.cells] w (zFR T w b sb n s L M st mo ba en i):=by
 have K0:=hid ((Bl.new w (.cells i.cells 38)).alloc (.cells #[.int .i64 0,.int .i64 0,.int .u64 0] 33));obtain ⟨b0,b1⟩:=zBf w (.cells i.cells 38) (.cells #[.int .i64 0,.int .i64 0,.int .u64 0] 33);have DV:=hid (zKV (i:=i) h hm hTb (s.nxt i));have hlt:=h.lt;have hstW:=h.bl K0.out;have HR:=hid hR;have HT:=hid hT;clear hT;have HTB:=hid hTb;clear hTb;have HC:=hid hc;clear hc;have HN:=hid hn0;clear hn0;clear h hm hR;have B0:=hid b0;clear b0;obtain ⟨pc,xs,ha,hn⟩:=s;obtain ⟨op,rd,r1,r2,im,od,sz⟩:=i;simp only [St.nxt] at hd hr hr2 hstW HR HC DV;unfold zB at *;go_enter func51,ntmps51;go_upto_region 1 with (fail);generalize (w.alloc (.cells (Td.I7 op rd r1 r2 im od sz) 38)).alloc (.cells #[.int .i64 0,.int .i64 0,.int .u64 0] 33)=W at *;have c0:=hstW.pc_;have z0:=hstW.free 0;obtain ⟨d0,d1,d2,d3,d4,d5,d6⟩:=zI B0.out;go_upto_region 5 with (fail);generalize hN:IntKind.u64.wrap (pc+IntKind.u64.wrap sz)=np at *;generalize W.setCell ⟨b,0,none⟩ (.int .u64 np)=V at *;have HN9:=hid hN;clear hN;clear c0 z0 d0 d1 d2 d3 d4 d5 d6 hstW B0 K0 b1;obtain ⟨d0,d1,d2,d3,d4,d5,d6⟩:=zI DV.out.box;simp only at d0 d1 d2 d3 d4 d5 d6;obtain ⟨e0,e1,e2⟩:=zD DV.out.res;have z0:=free_at DV.out.res;have hsz:=DV.out.size;rcases HC.out with hc|hc|hc
 ·clear HC;have q2:=nin (show ¬ op=2 by omega);have q3:=nin (show ¬ op=3 by omega);have q4:=nin (show ¬ op=4 by omega);have CB:=hid (fun W=>zAt (op:=op) (by omega) W);have CL:=hid (fun W=>isLoad_yes hc W);have CX:=hid (haLoad_any DV.out.stt HR.out DV.out.ms ⟨op,rd,r1,r2,im,od,sz⟩ hc hd hr);unfold zB at CX;go_wp2_with (first|(go_at_call 80;with_reducible refine (CB.out _).mono ?_;rintro e W1 ⟨rfl,rfl⟩)|(go_at_call 82;with_reducible refine (CL.out _).mono ?_;rintro e W1 ⟨rfl,rfl⟩));with_reducible refine CX.out.mono ?_
  rintro e W1 (⟨z,hf,rfl,k1⟩|⟨hf,rfl,g1,f1⟩)
  ·unfold zAD;have HF:=hid hf;clear hf;have R1:=hid (k1.at_ DV.out.res);have R2:=hid (show ∃ st',Grow M M st st'∧MS (gap T w.heap.size V.heap.size) W1 sb (n+9) L M st' mo ba en from ⟨st,Grow.refl M st,(DV.out.ms.bl k1).mono (by omega)⟩);have R3:=hid ((DV.out.fr.mono fun x _ e=>Or.inr (a:=T x) e).trans (Fr.zP k1));clear d0 d1 d2 d3 d4 d5 d6 e0 e1 e2 z0;obtain ⟨e0,e1,e2⟩:=zD R1.out;have z0:=free_at R1.out;go_wp2_with fail;obtain ⟨s1,s2,s3,s4⟩:=zCC (k:=4) (s':=⟨pc,xs,0,0⟩) (.int .i64 4) (.int .i64 1) (.int .u64 z) R1.out R2.out hsz R3.out (fun e=>by cases e) hlt;refine zzb (Td.zAk rfl _ _ (w.heap.size+1) rfl s1 rfl) rfl ?_;exact ⟨4,1,z,⟨pc,xs,0,0⟩,M,(DoIs.loadBad (L:=L) (M:=M) (s:=⟨pc,xs,ha,hn⟩) (i:=⟨op,rd,r1,r2,im,od,sz⟩) z hc HF.out),rfl,s2,s3,s4⟩
  ·unfold zAD;have HF:=hid hf;clear hf;obtain ⟨r1',r2',r3'⟩:=DV.out.turn HTB.out hlt f1 g1;have G1:=hid g1;clear g1;have R1:=hid r1';have R2:=hid r2';have R3:=hid r3';clear d0 d1 d2 d3 d4 d5 d6 e0 e1 e2 z0;obtain ⟨e0,e1,e2⟩:=zD R1.out;have z0:=free_at R1.out;go_wp2_with fail;obtain ⟨s1,s2,s3,s4⟩:=zCC (k:=0) (s':=⟨np,setX xs rd (zHT op (zb M (adr xs ⟨op,rd,r1,r2,im,od,sz⟩).toNat (lwid op))),ha,hn⟩) (.int .i64 0) (.int .i64 0) (.int .u64 0) R1.out R2.out hsz R3.out (fun _=>G1.out) hlt;refine zzb (Td.zAk rfl _ _ (w.heap.size+1) rfl s1 rfl) rfl ?_;exact ⟨0,0,0,⟨np,setX xs rd (zHT op (zb M (adr xs ⟨op,rd,r1,r2,im,od,sz⟩).toNat (lwid op))),ha,hn⟩,M,(by have:=DoIs.loadOk (L:=L) (M:=M) (s:=⟨pc,xs,ha,hn⟩) (i:=⟨op,rd,r1,r2,im,od,sz⟩) hc HF.out;unfold St.nxt at this;simp only at this;rw [HN9.out] at this;exact this),rfl,s2,s3,s4⟩
 ·clear HC;have q2:=nin (show ¬ op=2 by omega);have q3:=nin (show ¬ op=3 by omega);have q4:=nin (show ¬ op=4 by omega);have CB:=hid (fun W=>zAt (op:=op) (by omega) W);have CL:=hid (fun W=>zBy (op:=op) (by omega) W);have CS:=hid (fun W=>isStore_yes hc W);have CX:=hid (haStore_any DV.out.stt DV.out.ms (zAu HTB.out) HN.out (zCA HT.out w.heap.size (Nat.le_of_lt (Nat.lt_of_succ_lt hsz))) ⟨op,rd,r1,r2,im,od,sz⟩ hc hr hr2);unfold zB at CX;go_wp2_with (first|(go_at_call 80;with_reducible refine (CB.out _).mono ?_;rintro e W1 ⟨rfl,rfl⟩)|(go_at_call 82;with_reducible refine (CL.out _).mono ?_;rintro e W1 ⟨rfl,rfl⟩)|(go_at_call 84;with_reducible refine (CS.out _).mono ?_;rintro e W1 ⟨rfl,rfl⟩));with_reducible refine CX.out.mono ?_
  rintro e W1 (⟨z,hf,rfl,k1⟩|⟨hf,rfl,hms,f1⟩)
  ·unfold zAD;have HF:=hid hf;clear hf;have R1:=hid (k1.at_ DV.out.res);have R2:=hid (show ∃ st',Grow M M st st'∧MS (gap T w.heap.size V.heap.size) W1 sb (n+9) L M st' mo ba en from ⟨st,Grow.refl M st,(DV.out.ms.bl k1).mono (by omega)⟩);have R3:=hid ((DV.out.fr.mono fun x _ e=>Or.inr (a:=T x) e).trans (Fr.zP k1));clear d0 d1 d2 d3 d4 d5 d6 e0 e1 e2 z0;obtain ⟨e0,e1,e2⟩:=zD R1.out;have z0:=free_at R1.out;go_wp2_with fail;obtain ⟨s1,s2,s3,s4⟩:=zCC (k:=4) (s':=⟨pc,xs,0,0⟩) (.int .i64 4) (.int .i64 2) (.int .u64 z) R1.out R2.out hsz R3.out (fun e=>by cases e) hlt;refine zzb (Td.zAk rfl _ _ (w.heap.size+1) rfl s1 rfl) rfl ?_;exact ⟨4,2,z,⟨pc,xs,0,0⟩,M,(DoIs.storeBad (L:=L) (M:=M) (s:=⟨pc,xs,ha,hn⟩) (i:=⟨op,rd,r1,r2,im,od,sz⟩) z hc HF.out),rfl,s2,s3,s4⟩
  ·unfold zAD;have HF:=hid hf;clear hf;have G1:=hid (DV.out.stt.fr f1 (zAu HTB.out));have R1:=hid (f1.at_ DV.out.res (zAS hsz (Nat.le_succ _)));have R2:=hid hms;have R3:=hid ((DV.out.fr.mono fun x _ e=>Or.inr (a:=T x) e).trans (f1.zBW.mono fun x _ e=>.inl e));clear d0 d1 d2 d3 d4 d5 d6 e0 e1 e2 z0;obtain ⟨e0,e1,e2⟩:=zD R1.out;have z0:=free_at R1.out;go_wp2_with fail;obtain ⟨s1,s2,s3,s4⟩:=zCC (k:=0) (s':=⟨np,xs,ha,hn⟩) (.int .i64 0) (.int .i64 0) (.int .u64 0) R1.out R2.out hsz R3.out (fun _=>G1.out) hlt;refine zzb (Td.zAk rfl _ _ (w.heap.size+1) rfl s1 rfl) rfl ?_;exact ⟨0,0,0,⟨np,xs,ha,hn⟩,(lay M (adr xs ⟨op,rd,r1,r2,im,od,sz⟩).toNat (putB (rx xs r2) (swid op))),(by have:=DoIs.storeOk (L:=L) (M:=M) (s:=⟨pc,xs,ha,hn⟩) (i:=⟨op,rd,r1,r2,im,od,sz⟩) hc HF.out;unfold St.nxt at this;simp only at this;rw [HN9.out] at this;exact this),rfl,s2,s3,s4⟩
 ·clear HC;have q2:=nin (show ¬ op=2 by omega);have q3:=nin (show ¬ op=3 by omega);have q4:=nin (show ¬ op=4 by omega);have CB:=hid (fun W=>zAt (op:=op) (by omega) W);have CL:=hid (fun W=>zBy (op:=op) (by omega) W);have CS:=hid (fun W=>zBr (op:=op) (by omega) W);have CW:=hid (fun W=>zAQ op W);have hq:(0:Int)<(awid op:Int):=by rcases zFL op with h3|h3<;>omega
  have CX:=hid (haAtomic_any DV.out.stt HR.out DV.out.ms (zAu HTB.out) HN.out (zCA HT.out w.heap.size (Nat.le_of_lt (Nat.lt_of_succ_lt hsz))) ⟨op,rd,r1,r2,im,od,sz⟩ hd hr hr2);generalize (awid op:Int)=q at *;unfold zB at CX;go_wp2_with (first|(go_at_call 80;with_reducible refine (CB.out _).mono ?_;rintro e W1 ⟨rfl,rfl⟩)|(go_at_call 82;with_reducible refine (CL.out _).mono ?_;rintro e W1 ⟨rfl,rfl⟩)|(go_at_call 84;with_reducible refine (CS.out _).mono ?_;rintro e W1 ⟨rfl,rfl⟩)|(go_at_call 86;with_reducible refine (CW.out _).mono ?_;rintro e W1 ⟨rfl,rfl⟩));with_reducible refine CX.out.mono ?_
  rintro e W1 ⟨⟨y,ta,tn,k,fk,fa⟩,M',hs,rfl,hms,hst,f1⟩;have HST:=hid hst;clear hst;have HIS:=hid hs;clear hs;by_cases hk:k=0
  ·subst hk;rw [if_pos rfl];unfold zAD;have R1:=hid (f1.at_ DV.out.res (fun e=>by rcases e with e|e;exact zAS hsz (Nat.le_succ _) e;omega));have R2:=hid hms;have R3:=hid ((DV.out.fr.mono fun x _ e=>Or.inr (a:=T x) e).trans (f1.mono fun x _ e=>by rcases e with e|e;exact .inl e.1;exact .inr e));clear d0 d1 d2 d3 d4 d5 d6 e0 e1 e2 z0;obtain ⟨e0,e1,e2⟩:=zD R1.out;have z0:=free_at R1.out;go_wp2_with fail;obtain ⟨s1,s2,s3,s4⟩:=zCC (k:=0) (s':=⟨np,setX xs rd y,ta,tn⟩) (.int .i64 0) (.int .i64 0) (.int .u64 0) R1.out R2.out hsz R3.out (fun _=>HST.out trivial) hlt;refine zzb (Td.zAk rfl _ _ (w.heap.size+1) rfl s1 rfl) rfl ?_;exact ⟨0,0,0,⟨np,setX xs rd y,ta,tn⟩,M',(by obtain ⟨e1,e2⟩:=zFc HIS.out rfl;simp only at e1 e2;have:=DoIs.atomOk (L:=L) (M:=M) (s:=⟨pc,xs,ha,hn⟩) (i:=⟨op,rd,r1,r2,im,od,sz⟩) _ _ hc HIS.out rfl;unfold St.nxt at this;simp only at this;rw [HN9.out,e1,e2] at this;exact this),rfl,s2,s3,s4⟩
  ·rw [if_neg hk];unfold zAD;have R1:=hid (f1.at_ DV.out.res (fun e=>by rcases e with e|e;exact zAS hsz (Nat.le_succ _) e;omega));have R2:=hid hms;have R3:=hid ((DV.out.fr.mono fun x _ e=>Or.inr (a:=T x) e).trans (f1.mono fun x _ e=>by rcases e with e|e;exact .inl e.1;exact .inr e));clear d0 d1 d2 d3 d4 d5 d6 e0 e1 e2 z0;obtain ⟨e0,e1,e2⟩:=zD R1.out;have z0:=free_at R1.out;go_wp2_with fail;obtain ⟨s1,s2,s3,s4⟩:=zCC (k:=k) (s':=⟨pc,xs,0,0⟩) (.int .i64 k) (.int .i64 fk) (.int .u64 fa) R1.out R2.out hsz R3.out (fun e=>absurd e hk) hlt;refine zzb (Td.zAk rfl _ _ (w.heap.size+1) rfl s1 rfl) rfl ?_;exact ⟨k,fk,fa,⟨pc,xs,0,0⟩,M',(DoIs.atomBad (L:=L) (M:=M) (s:=⟨pc,xs,ha,hn⟩) (i:=⟨op,rd,r1,r2,im,od,sz⟩) _ _ hc HIS.out hk),rfl,s2,s3,s4⟩
theorem haDo_any (h:StAt w b s.pc s.xs s.ha s.hn) (hR:Regs s.xs) (hm:MS T w sb n L M st mo ba en) (hTb:¬ T b) (hn0:n<80000000) (hT:∀ b,w.heap.size≤b→T b) (i:Td.Ins) (hd:0≤i.rd∧i.rd<32) (hr:0≤i.r1∧i.r1<32) (hr2:0≤i.r2∧i.r2<32) :
  Calls prog 51 #[zB b,zB sb,.agg i.cells] w (zFR T w b sb n s L M st mo ba en i):=by
 by_cases h1:i.op=2∨i.op=3∨i.op=4
 ·exact haDo_jumps h hR hm hTb hn0 hT i hd hr hr2 h1
 ·by_cases h2:(11≤i.op∧i.op≤17)∨(18≤i.op∧i.op≤21)∨(63≤i.op∧i.op≤84)
  ·exact haDo_space h hR hm hTb hn0 hT i hd hr hr2 h2
  ·exact haDo_plain h hR hm hTb hn0 hT i hd hr hr2 (by omega)
end
section
variable {H:Type} (w:World) {ops:Array Oper} {rest:List Oper} {o:Oper} {a:Act} {Q:Exit→Act→World→Prop}
end
def Step (L L':List Rg) (M M' st st':Nat→Int):Prop:=∀ p,p<2^64→st p≤st' p∧(((∃ x:Nat,x/4096=p∧M' x≠M x)∨(∃ q,¬ (In L ((p:Int)*4096) q↔In L' ((p:Int)*4096) q)))→st p<st' p)
variable {L:List Rg} {M M' M1 M2 st st':Nat→Int}
theorem Step.bytes (h:Rise st st' (fun p=>∃ x:Nat,x/4096=p∧M' x≠M x)):Step L L M M' st st':=fun p hp=>⟨(h p hp).1,fun e=>by
 rcases e with e|⟨q,hq⟩
 ·exact (h p hp).2 e
 ·exact absurd Iff.rfl hq⟩
section
variable {T:Nat→Prop} {w w':World} {sb n:Nat} {L:List Rg} {M st:Nat→Int} {mo ba en:Int}
end
def zBU (L:List Rg) (M:Nat→Int) (a:Nat) (xs:List Int) (t:Nat) (M':Nat→Int):Prop:=
 ∀ x:Nat,((a≤x∧x<a+t∧∃ q,In L (x:Int) q)→M' x=xs.getD (x - a) 0)∧(¬ (a≤x∧x<a+t∧∃ q,In L (x:Int) q)→M' x=M x)
theorem zBU.zero (L:List Rg) (M:Nat→Int) (a:Nat) (xs:List Int):zBU L M a xs 0 M:=fun x=>⟨fun h=>by omega,fun _=>rfl⟩
variable {xs:List Int}
theorem zBU.one {a t:Nat} (h:zBU L M a xs t M1) (k:zBU L M a xs t M2):M1=M2:=by
 funext x
 by_cases hc:a≤x∧x<a+t∧∃ q,In L (x:Int) q
 ·rw [(h x).1 hc,(k x).1 hc]
 ·rw [(h x).2 hc,(k x).2 hc]
theorem put_rel {a:Nat} (hl:Al L) (ha:a+xs.length≤18446744073709551616):
  zKj L a xs (fun t M1 st1=>zBU L M a xs t M1∧Rise st st1 (fun p=>∃ x:Nat,x/4096=p∧M1 x≠M x)):=by
 intro t M1 st1 c d hp ht hc hd;obtain ⟨hp,hr⟩:=hp;obtain rfl:c=a+t:=by omega
 have hpage:∀ x:Nat,a+t≤x→x<a+t+d→x/4096=(a+t)/4096:=fun x h1 h2=>by omega
 have hin:∀ x:Nat,a+t≤x→x<a+t+d→((∃ q,In L (x:Int) q)↔∃ q,In L ((a+t:Nat):Int) q):=fun x h1 h2=>by
  have e:(x:Int)/4096=((a+t:Nat):Int)/4096:=by have:=hpage x h1 h2;omega
  constructor
  ·rintro ⟨q,hq⟩;exact ⟨q,by rw [zDD hl,← e,← zDD hl];exact hq⟩
  ·rintro ⟨q,hq⟩;exact ⟨q,by rw [zDD hl,e,← zDD hl];exact hq⟩
 have hlen:((xs.drop t).take d).length=d:=by rw [List.length_take,List.length_drop];omega
 refine ⟨fun hm st2 hr2=>⟨fun x=>?_,?_⟩,fun hm=>⟨fun x=>?_,hr⟩⟩
 ·by_cases h1:a+t≤x∧x<a+t+d
  ·have hx:=(hin x h1.1 h1.2).2 hm;refine ⟨fun _=>?_,fun h=>absurd ⟨by omega,by omega,hx⟩ h⟩;have e1:=lay_at M1 (a+t) ((xs.drop t).take d) (x - (a+t)) (by rw [hlen];omega);rw [show a+t+(x - (a+t))=x by omega] at e1;rw [e1,zzd,List.getElem?_take_of_lt (by omega),List.getElem?_drop,zzd,show t+(x - (a+t))=x - a by omega]
  ·rw [zGA _ _ _ _ (by rw [hlen];omega)];refine ⟨fun h=>(hp x).1 ⟨h.1,by omega,h.2.2⟩,fun h=>(hp x).2 fun h'=>h ⟨h'.1,by omega,h'.2.2⟩⟩
 ·refine (hr.trans hr2).mono fun p ⟨x,hx,hne⟩=>?_
  by_cases h1:lay M1 (a+t) ((xs.drop t).take d) x=M1 x
  ·exact .inl ⟨x,hx,by rw [← h1];exact hne⟩
  ·have h2:=lay_ne h1;rw [hlen] at h2;exact .inr ⟨x,h2.1,by omega,hx.symm⟩
 ·refine ⟨fun h=>?_,fun h=>(hp x).2 fun h'=>h ⟨h'.1,by omega,h'.2.2⟩⟩;rcases Nat.lt_or_ge x (a+t) with h1|h1
  ·exact (hp x).1 ⟨h.1,h1,h.2.2⟩
  ·obtain ⟨q,hq⟩:=(hin x h1 (by omega)).1 h.2.2;exact absurd hq (hm q)
variable {ba en fa fk hn k' mo:Int}
theorem mput_rel (h:MS T w sb n0 L M st mo ba en) (a:Nat) (A:Option Addr) (len cap:Nat) (xs:List Int) (hr:Rd w A xs) (hl:xs.length=len) (hlc:len≤cap) (hb:∀ k,0≤xs.getD k 0∧xs.getD k 0≤255)
 (hA:0<len→∀ ad,A=some ad→¬ T ad.block) (ha:a+len≤18446744073709551615) (hlen:len≤100000) (hn:n0<10000000) (hT:∀ b,w.heap.size≤b→T b):
  Calls prog 26 #[zB sb,.int .u64 (a:Int),.slice A len cap] w fun e w'=>e=.returned (.tuple #[])∧∃ M' st',MS T w' sb (n0+6*len) L M' st' mo ba en∧zBU L M a xs len M'∧Step L L M M' st st'∧Fr T w w':=by
 refine (mput_any h a A len cap xs hr hl hlc hb hA (by omega) hlen hn hT _ ⟨zBU.zero L M a xs,(Rise.refl st).mono fun p ⟨x,_,hx⟩=>absurd rfl hx⟩ (put_rel h.rs.al (by omega))).mono ?_;rintro e w' ⟨rfl,M',st',h1,⟨h2,h3⟩,h4⟩;exact ⟨rfl,M',st',h1,h2,Step.bytes h3,h4⟩
def oneR (sb:Nat) (L:List Rg) (M st:Nat→Int):Sps:=fun b L' M' st'=>b=sb∧L'=L∧M'=M∧st'=st
theorem oneR_sole (sb:Nat) (L:List Rg) (M st:Nat→Int):Sole (oneR sb L M st) sb L M st:=⟨⟨rfl,rfl,rfl,rfl⟩,fun _ _ _ h=>h.2⟩
theorem oneR_blocks (h:MS T w sb n L M st mo ba en):zHB (oneR sb L M st) w:=fun b L' M' st' hr=>by
 rw [hr.1];exact h.block_
def zIT (i:Td.Ins):Prop:=(0≤i.rd∧i.rd<32)∧(0≤i.r1∧i.r1<32)∧(0≤i.r2∧i.r2<32)
theorem tk0 (s a m:Nat):Td.tk s a m 0=(Td.pc s a m:Nat):=by unfold Td.tk;simp
theorem zIy (o:Int) (s:Nat) (f:Td.Fm):zIT (Td.parts o s f):=by
 have h1:=Td.zF s 7 5;have h2:=Td.zF s 15 5;have h3:=Td.zF s 20 5;cases f<;>simp only [Td.parts,zIT,tk0,Td.zDh]<;>omega
theorem ex_ok (s:Nat):(0≤(Td.ex s).rd∧(Td.ex s).rd<32)∧(0≤(Td.ex s).r1∧(Td.ex s).r1<32)∧(0≤(Td.ex s).r2∧(Td.ex s).r2<32):=by
 have h1:=Td.zF s 2 3;have h2:=Td.zF s 7 3;have h3:=Td.zF s 7 5;have h4:=Td.zF s 2 5;unfold Td.ex Td.zDw Td.zCP Td.zDF
 repeat' split
 all_goals simp only [Td.Sh.zero]
 all_goals omega
theorem ins_ok (y:Nat):zIT (zCs y):=by
 unfold zCs
 split
 ·unfold Td.dec
  split
  ·simp only [zIT,Td.zDh];omega
  ·exact zIy _ _ _
 ·split
  ·simp only [zIT,Td.zDh];omega
  ·exact ex_ok _
theorem zBl.ok {pc:Nat} {A:Ans} (h:zBl L M pc A):zIT A.i:=by
 obtain ⟨y,k,x,_,rfl⟩:=h;have hz:zIT Td.zDh:=by simp only [zIT,Td.zDh];omega
 unfold zEM
 split
 ·split
  ·exact ins_ok _
  ·exact hz
 ·exact hz
theorem Inv.grow {g:Nat→Option Ent} (h:Inv (oneR sb L M st) g) (hs:Grow M M' st st') (hl:Al L) (hb:∀ x,0≤M x∧M x≤255):Inv (oneR sb L M' st') g:=fun p e he=>by
 obtain ⟨h1,h2,⟨L0,M0,s0,hr⟩,h4⟩:=h p e he;refine ⟨h1,h2,⟨L,M',st',hr.1,rfl,rfl,rfl⟩,fun L1 M1 s1 hr1=>?_⟩;obtain ⟨_,e1,e2,e3⟩:=hr1;subst e1 e2 e3;obtain ⟨g1,g2,g3⟩:=h4 L1 M st ⟨hr.1,rfl,rfl,rfl⟩;have hz:e.i.sz.toNat=2∨e.i.sz.toNat=4:=by omega
 have hp1:=hs (p/4096) (by omega);have hp2:=hs ((p+e.i.sz.toNat - 1)/4096) (by omega);refine ⟨by omega,by omega,fun q1 q2=>?_⟩;have ag:∀ y,st y=s1 y→(st y≤s1 y∧((∃ x:Nat,x/4096=y∧M1 x≠M x)→st y<s1 y))→Agree L1 L1 M M1 y:=fun y hy hst=>by
  refine ⟨fun x hx=>?_,fun q=>Iff.rfl⟩
  apply Classical.byContradiction
  intro hne
  have:=hst.2 ⟨x,hx,hne⟩
  omega
 exact (g3 (by omega) (by omega)).keep hl hl (ag _ (by omega) hp1) (ag _ (by omega) hp2) hb
def Cch (on:Bool) (sb:Nat) (L:List Rg) (M st:Nat→Int) (w:World) (cb B:Nat):Prop:=
 if on=true then ∃ g k,CA w cb B g k∧k≤4096∧Inv (oneR sb L M st) g else COff w cb
section
variable {T:Nat→Prop} {w:World} {b sb cb B n:Nat} {on:Bool} {s:St} {L:List Rg} {M st:Nat→Int} {mo ba en:Int}
theorem Cch.bl (h:Cch on sb L M st w cb B) (k:Bl w w'):Cch on sb L M st w' cb B:=by
 unfold Cch at *
 split
 ·rename_i ho
  rw [if_pos ho] at h;obtain ⟨g,q,h1,h2,h3⟩:=h;exact ⟨g,q,h1.bl k,h2,h3⟩
 ·rename_i ho
  rw [if_neg ho] at h;exact COff.bl h k
theorem Cch.fr (h:Cch on sb L M st w cb B) (k:Fr U w w') (h1:¬ U cb) (h2:¬ U B):Cch on sb L M st w' cb B:=by
 unfold Cch at *
 split
 ·rename_i ho
  rw [if_pos ho] at h;obtain ⟨g,q,h3,h4,h5⟩:=h;exact ⟨g,q,h3.fr k h1 h2,h4,h5⟩
 ·rename_i ho
  rw [if_neg ho] at h;exact COff.fr h k h1
theorem Cch.grow (h:Cch on sb L M st w cb B) (hs:Grow M M' st st') (hl:Al L) (hb:∀ x,0≤M x∧M x≤255):Cch on sb L M' st' w cb B:=by
 unfold Cch at *
 split
 ·rename_i ho
  rw [if_pos ho] at h;obtain ⟨g,q,h3,h4,h5⟩:=h;exact ⟨g,q,h3,h4,h5.grow hs hl hb⟩
 ·rename_i ho
  rw [if_neg ho] at h;exact h
theorem fetch_any (hc:Cch on sb L M st w cb B) (hTB:¬ T B) (hB:21≤B) (hm:MS T w sb n L M st mo ba en) (hT:Td.zBk w) (pc:Nat) (hpc:pc<2^64) :
  Calls prog 50 #[zB cb,zB sb,.int .u64 (pc:Int)] w fun e w'=>∃ A,zBl L M pc A∧e=.returned A.v∧Cch on sb L M st w' cb B∧Fr (only B) w w':=by
 unfold Cch at *;cases on with
 | true =>
  rw [if_pos rfl] at hc;obtain ⟨g,k,h1,h2,h3⟩:=hc;exact fetch_on h1 h2 h3 (oneR_sole _ _ _ _) (oneR_blocks hm) hTB hB hm hT pc hpc
 | false =>
  rw [if_neg (by simp)] at hc;refine (fetch_off hc hm hT pc hpc).mono ?_;rintro e w' ⟨A,h1,h2,h3⟩;exact ⟨A,h1,h2,COff.bl hc h3,Fr.zP h3⟩
inductive zBT (L:List Rg) (M:Nat→Int) (s:St):Int→Int→Int→St→(Nat→Int)→Prop
 | bad (A:Ans):zBl L M s.pc.toNat A→A.k≠0→zBT L M s A.k A.fk A.fa s.rest M
 | go (A:Ans) (k fk fa:Int) (s':St) (M':Nat→Int):zBl L M s.pc.toNat A→A.k=0→DoIs L M s A.i k fk fa s' M'→zBT L M s k fk fa s' M'
theorem zBT.one {k fk' fa':Int} {s1 s2:St} (h:zBT L M s k fk fa s1 M1) (g:zBT L M s k' fk' fa' s2 M2):k=k'∧fk=fk'∧fa=fa'∧s1=s2∧M1=M2:=by
 cases h with
 | bad A h1 h2=>cases g with
  | bad A' g1 g2=>obtain rfl:=h1.one g1;exact ⟨rfl,rfl,rfl,rfl,rfl⟩
  | go A' _ _ _ _ _ g1 g2 g3=>obtain rfl:=h1.one g1;exact absurd g2 h2
 | go A _ _ _ _ _ h1 h2 h3=>cases g with
  | bad A' g1 g2=>obtain rfl:=h1.one g1;exact absurd h2 g2
  | go A' _ _ _ _ _ g1 g2 g3=>obtain rfl:=h1.one g1;exact h3.one g3
theorem zBT.keep {k:Int} {s1:St} (h:zBT L M s k fk fa s1 M1) (hM:∀ x,0≤M x∧M x≤255) (hR:Regs s.xs) (hp:0≤s.pc∧s.pc<18446744073709551616):
  Regs s1.xs∧0≤s1.pc∧s1.pc<18446744073709551616:=by
 cases h with
 | bad A h1 h2=>exact ⟨hR,hp⟩
 | go A _ _ _ _ _ h1 h2 h3=>exact h3.keep hM hR hp h1.ok.1
variable {i:Td.Ins}
theorem DoIs.stop {k:Int} {s1:St} (h:DoIs L M s i k fk fa s1 M1) (hk:k≠0):s1=s.rest∧M1=M:=by
 cases h with
 | ecall h=>exact ⟨rfl,rfl⟩
 | ebreak h=>exact ⟨rfl,rfl⟩
 | loadBad z h hf=>exact ⟨rfl,rfl⟩
 | storeBad z h hf=>exact ⟨rfl,rfl⟩
 | atomBad o N h hf h0 =>
  refine ⟨rfl,?_⟩;cases hf<;>first|rfl|exact absurd rfl h0
 | _=>exact absurd rfl hk
theorem zBT.stop {k:Int} {s1:St} (h:zBT L M s k fk fa s1 M1) (hk:k≠0):s1=s.rest∧M1=M:=by
 cases h with
 | bad A h1 h2=>exact ⟨rfl,rfl⟩
 | go A _ _ _ _ _ h1 h2 h3=>exact h3.stop hk
def zEh (T:Nat→Prop) (w:World) (b sb cb B n:Nat) (on:Bool) (s:St) (L:List Rg) (M st:Nat→Int) (mo ba en:Int) (e:Ending) (w':World):Prop:=
 ∃ k fk fa s' M' st',zBT L M s k fk fa s' M'∧e=.returned (zAD k fk fa)∧MS T w' sb (n+9) L M' st' mo ba en∧Cch on sb L M' st' w' cb B∧(k=0→StAt w' b s'.pc s'.xs s'.ha s'.hn)∧Fr (fun x=>T x∨x=b∨x=B) w w'
end
structure Base (T:Nat→Prop) (w:World) (b sb cb B n:Nat) (on:Bool) (L:List Rg) (M st:Nat→Int) (mo ba en:Int):Prop where
 ms:MS T w sb n L M st mo ba en
 cch:Cch on sb L M st w cb B
 tabs:Td.zBk w
 al:Al L
 nb:¬ T b
 nc:¬ T cb
 nB:¬ T B
 bc:b≠cb
 bB:b≠B
 cl:cb<w.heap.size
 Bl_:B<w.heap.size
 B21:21≤B
 b21:21≤b
 t21:∀ g,g<21→¬ T g
theorem stepHa_any {on:Bool} {s:St} (h:StAt w b s.pc s.xs s.ha s.hn) (hR:Regs s.xs) (hp:0≤s.pc∧s.pc<18446744073709551616) (hb:Base T w b sb cb B n on L M st mo ba en) (hn0:n<80000000) (hT:∀ b,w.heap.size≤b→T b):
  Calls prog 30 #[zB b,zB sb,zB cb] w (zEh T w b sb cb B n on s L M st mo ba en):=by
 have K0:=hid (Bl.new w (.cells #[.int .i64 0,.int .i64 0,.int .u64 0] 33));have R0:=hid (zzn w (.cells #[.int .i64 0,.int .i64 0,.int .u64 0] 33));have hlt:=h.lt;obtain ⟨p,hpp⟩:=zze hp.1;have hp64:p<2^64:=by omega
 have hsz:(w.alloc (.cells #[.int .i64 0,.int .i64 0,.int .u64 0] 33)).heap.size=w.heap.size+1:=by simp
 have HM:=hid (hb.ms.gap K0.out w.heap.size (w.alloc (.cells #[.int .i64 0,.int .i64 0,.int .u64 0] 33)).heap.size (zzr _));have HF:=hid (fetch_any (hb.cch.bl K0.out) (zAu hb.nB) hb.B21 HM.out (hb.tabs.bl K0.out) p hp64);have HST:=hid (h.bl K0.out);have HR:=hid hR;clear hR;have HB:=hid hb;clear hb;have HN0:=hid hn0;clear hn0;have HT:=hid hT;clear hT;have HSZ:=hid hsz;clear hsz;clear h;obtain ⟨pc,xs,ha,hn⟩:=s;simp only at hpp HST HR hp;subst hpp;unfold zB at *;go_enter func30,ntmps30;go_upto_region 1 with (fail);generalize w.alloc (.cells #[.int .i64 0,.int .i64 0,.int .u64 0] 33)=W at *;have c0:=HST.out.pc_;go_wp2_with fail;with_reducible refine HF.out.mono ?_
 rintro e w1 ⟨⟨⟨a0,a1,a2,a3,a4,a5,a6⟩,k,fk,fa⟩,han,rfl,hcc,hfr⟩;have HAN:=hid han;clear han;have HCC:=hid hcc;clear hcc;have R1:=hid (hfr.at_ R0.out (fun e=>by have e3:w.heap.size=B:=e;have:=HB.out.Bl_;omega));have HST1:=hid (HST.out.fr hfr (fun e=>HB.out.bB e));have HM1:=hid (HM.out.kept hfr (fun x e e2=>HB.out.nB (by rw [← show x=B from e2];exact e.1)));have HF1:=hid ((Fr.zP (S:=fun x=>T x∨x=b∨x=B) K0.out).trans (hfr.mono fun x _ e=>.inr (.inr e)));have HFS:=hid hfr.size;clear hfr HF HM HST R0 c0;unfold Ans.v zJf Td.Ins.cells;go_upto_region 2 with (fail);have K2:=hid ((Bl.new w1 (.cells (Td.I7 a0 a1 a2 a3 a4 a5 a6) 38)).alloc (.cells #[.int .i64 k,.int .i64 fk,.int .u64 fa] 33));obtain ⟨b0,b1⟩:=zBf w1 (.cells (Td.I7 a0 a1 a2 a3 a4 a5 a6) 38) (.cells #[.int .i64 k,.int .i64 fk,.int .u64 fa] 33);generalize (w1.alloc (.cells (Td.I7 a0 a1 a2 a3 a4 a5 a6) 38)).alloc (.cells #[.int .i64 k,.int .i64 fk,.int .u64 fa] 33)=V at *;have hlt1:=zG R1.out;have R2:=hid (K2.out.at_ R1.out);have B0:=hid b0;clear b0;have B1:=hid b1;clear b1;have HST2:=hid (HST1.out.bl K2.out);have HM2:=hid (HM1.out.bl K2.out);have HCC2:=hid (HCC.out.bl K2.out);have HF2:=hid (HF1.out.trans (Fr.zP K2.out));have hszV:w1.heap.size+1<V.heap.size:=zG B1.out;clear HST1 HM1 HCC HF1 R1 K2;obtain ⟨d0,d1,d2⟩:=zD B1.out;obtain ⟨e0,e1,e2⟩:=zD R2.out;have z0:=free_at R2.out;by_cases hk:k=0
 ·subst hk;obtain ⟨c0,c1,c2,c3,c4,c5,c6⟩:=zI B0.out;have hok:=HAN.out.ok;have hdo:=haDo_any (s:=⟨(p:Int),xs,ha,hn⟩) HST2.out HR.out HM2.out (zAu HB.out.nb) HN0.out (fun x hx=>by have h5:=HT.out;have h6:=HSZ.out;have h7:=HFS.out;exact ⟨h5 x (by omega),fun e=>by omega⟩) ⟨a0,a1,a2,a3,a4,a5,a6⟩ hok.1 hok.2.1 hok.2.2;have HDO:=hid hdo;clear hdo hok;unfold zB at HDO;go_wp2_with fail;with_reducible refine HDO.out.mono ?_
  rintro e w2 ⟨k2,fk2,fa2,s',M',hdi,rfl,⟨st',hg,hm2⟩,hst2,f2⟩;have HDI:=hid hdi;clear hdi;have HG:=hid hg;clear hg;have HM3:=hid hm2;clear hm2;have HST3:=hid hst2;clear hst2;have nR:¬ (gap T w.heap.size W.heap.size w.heap.size∨w.heap.size=b):=fun e=>by
   rcases e with e|e
   ·exact zAS (by have h6:=HSZ.out;omega) (zzr _) e
   ·omega
  have R3:=hid (f2.at_ R2.out nR);have HCC3:=hid ((HCC2.out.fr f2 (fun e=>by
   rcases e with e|e
   ·exact HB.out.nc e.1
   ·exact HB.out.bc e.symm) (fun e=>by
   rcases e with e|e
   ·exact HB.out.nB e.1
   ·exact HB.out.bB e.symm)).grow HG.out HB.out.al HB.out.ms.by_)
  have HF3:=hid (HF2.out.trans (f2.mono fun x _ e=>by
   rcases e with e|e
   ·exact .inl e.1
   ·exact .inr (.inl e)))
  clear f2 nR c0 c1 c2 c3 c4 c5 c6 d0 d1 d2 e0 e1 e2 z0 HST2 HM2 HCC2 HF2 R2 B0 B1 HDO;obtain ⟨e0,e1,e2⟩:=zD R3.out;have z0:=free_at R3.out;unfold zAD;go_wp2_with fail;refine zzb (Td.zAk rfl _ _ w.heap.size rfl (set3 (.int .i64 k2) (.int .i64 fk2) (.int .u64 fa2) R3.out) rfl) rfl ?_;have k7:Fr (only w.heap.size) w2 (((w2.setCell ⟨w.heap.size,0,none⟩ (.int .i64 k2)).setCell ⟨w.heap.size,1,none⟩ (.int .i64 fk2)).setCell ⟨w.heap.size,2,none⟩ (.int .u64 fa2)):=((Fr.set (S:=only w.heap.size) (p:=⟨w.heap.size,0,none⟩) rfl _).trans (Fr.set (S:=only w.heap.size) (p:=⟨w.heap.size,1,none⟩) rfl _)).trans (Fr.set (S:=only w.heap.size) (p:=⟨w.heap.size,2,none⟩) rfl _);refine ⟨k2,fk2,fa2,s',M',st',zBT.go _ _ _ _ _ _ HAN.out rfl HDI.out,rfl,(HM3.out.kept k7 (fun x e e2=>e.2 (by have e3:x=w.heap.size:=e2;have h6:=HSZ.out;omega))).zBW,HCC3.out.fr k7 (fun e=>by have e3:cb=w.heap.size:=e;have:=HB.out.cl;omega) (fun e=>by have e3:B=w.heap.size:=e;have:=HB.out.Bl_;omega),fun e=>(HST3.out e).fr k7 (fun e=>by have e3:b=w.heap.size:=e;omega),?_⟩;exact ((HF3.out.zH (p:=⟨w.heap.size,0,none⟩) (zzr _) _).zH (p:=⟨w.heap.size,1,none⟩) (zzr _) _).zH (p:=⟨w.heap.size,2,none⟩) (zzr _) _
 ·have hk':=nin hk;go_wp2_with fail;refine zzb (Td.zAk rfl _ _ w.heap.size rfl (set3 (.int .i64 k) (.int .i64 fk) (.int .u64 fa) R2.out) rfl) rfl ?_;have k7:Fr (only w.heap.size) V (((V.setCell ⟨w.heap.size,0,none⟩ (.int .i64 k)).setCell ⟨w.heap.size,1,none⟩ (.int .i64 fk)).setCell ⟨w.heap.size,2,none⟩ (.int .u64 fa)):=((Fr.set (S:=only w.heap.size) (p:=⟨w.heap.size,0,none⟩) rfl _).trans (Fr.set (S:=only w.heap.size) (p:=⟨w.heap.size,1,none⟩) rfl _)).trans (Fr.set (S:=only w.heap.size) (p:=⟨w.heap.size,2,none⟩) rfl _);refine ⟨k,fk,fa,⟨(p:Int),xs,0,0⟩,M,st,zBT.bad (s:=⟨(p:Int),xs,ha,hn⟩) ⟨⟨a0,a1,a2,a3,a4,a5,a6⟩,k,fk,fa⟩ HAN.out hk,rfl,((HM2.out.kept k7 (fun x e e2=>e.2 (by have e3:x=w.heap.size:=e2;have h6:=HSZ.out;omega))).zBW).mono (by omega),HCC2.out.fr k7 (fun e=>by have e3:cb=w.heap.size:=e;have:=HB.out.cl;omega) (fun e=>by have e3:B=w.heap.size:=e;have:=HB.out.Bl_;omega),fun e=>absurd e hk,?_⟩;exact ((HF2.out.zH (p:=⟨w.heap.size,0,none⟩) (zzr _) _).zH (p:=⟨w.heap.size,1,none⟩) (zzr _) _).zH (p:=⟨w.heap.size,2,none⟩) (zzr _) _
structure HtAt (w:World) (hb:Nat) (pc:Int) (xs:List Int) (ha hn:Int) (sb cb:Nat):Prop where
 blk:w.heap[hb]?=some (.cells (stV pc xs ha hn++[zB sb,zB cb]).toArray 76 (0,0))
 len:xs.length=32
theorem zHo:(prog.info? 47).map (·.size)=some 35:=by kernel_rfl
theorem zJg (pc:Int) (xs:List Int) (ha hn:Int):(stV pc xs ha hn).toArray.all (·.oneCell')=true:=by
 refine all_oneCell_toArray fun v hv=>?_
 simp only [stV,List.mem_append,List.mem_cons,List.mem_map,zzm,or_false] at hv;rcases hv with (rfl|⟨x,_,rfl⟩)|rfl|rfl<;>rfl
variable {t:TypeId}
theorem zEH (post:List Value):∀ (vs old pre:List Value) (w:World),w.heap[b]?=some (.cells (pre++(old++post)).toArray t (0,0))→old.length=vs.length →
  (w.setCells b pre.length vs).heap[b]?=some (.cells (pre++(vs++post)).toArray t (0,0))
 | [],old,pre,w,h,hl=>by
  have:old=[]:=List.length_eq_zero_iff.1 (by simpa using hl)
  subst this;exact h
 | v :: vs,[],pre,w,h,hl=>by simp at hl
 | v :: vs,u :: old,pre,w,h,hl=>by
  rw [World.setCells];have h1:=zzs w b pre.length _ _ v h;rw [List.setIfInBounds_toArray,List.set_append_right _ _ (zzr _),Nat.sub_self,List.cons_append,List.set_cons_zero] at h1;have h2:=zEH post vs old (pre++[v]) (w.setCell ⟨b,pre.length,none⟩ v) (by simpa using h1) (by simpa using hl)
  simpa using h2
section
variable {w w':World} {hb sb cb:Nat} {pc ha hn:Int} {xs:List Int}
theorem HtAt.lt (h:HtAt w hb pc xs ha hn sb cb):hb<w.heap.size:=zG h.blk
theorem HtAt.bl (h:HtAt w hb pc xs ha hn sb cb) (k:Bl w w'):HtAt w' hb pc xs ha hn sb cb:=⟨k.at_ h.blk,h.len⟩
theorem HtAt.fr (h:HtAt w hb pc xs ha hn sb cb) (k:Fr U w w') (hn':¬ U hb):HtAt w' hb pc xs ha hn sb cb:=⟨k.at_ h.blk hn',h.len⟩
theorem HtAt.free (h:HtAt w hb pc xs ha hn sb cb) (i:Nat):w.frozen? ⟨hb,i,none⟩=false:=by simp [World.frozen?,h.blk]
theorem HtAt.cell (h:HtAt w hb pc xs ha hn sb cb) (i:Nat):w.cell? ⟨hb,i,none⟩=(stV pc xs ha hn++[zB sb,zB cb])[i]?:=by
 rw [zzc w hb _ _ _ (0,0) h.blk,List.getElem?_toArray]
theorem HtAt.ptrs (h:HtAt w hb pc xs ha hn sb cb):w.cell? ⟨hb,35,none⟩=some (zB sb)∧w.cell? ⟨hb,36,none⟩=some (zB cb):=by
 have hl:=zBY pc ha hn h.len
 constructor<;>rw [h.cell,List.getElem?_append_right (by omega),hl]<;>rfl
theorem HtAt.range (h:HtAt w hb pc xs ha hn sb cb):w.rangeAt hb 0 (stV pc xs ha hn):=fun j v hv=>by
 have hj:j<(stV pc xs ha hn).length:=(zzi.1 hv).1;rw [Nat.zero_add,h.cell,List.getElem?_append_left hj];exact hv
theorem HtAt.there (h:HtAt w hb pc xs ha hn sb cb):w.there hb 0 35:=fun j hj=>by
 have hl:=zBY pc ha hn h.len;refine ⟨?_,h.free _⟩;rw [Nat.zero_add,h.cell,List.getElem?_append_left (by omega),zzg (by omega)];rfl
theorem HtAt.load (h:HtAt w hb pc xs ha hn sb cb):(Instr.loadAt 47 (.pointer (some ⟨hb,0,none⟩))).run prog w=.ok (.agg (stV pc xs ha hn).toArray) w:=
 run_loadAt_mid w hb 0 _ _ _ h.range underlying47 rfl (by rw [zBY _ _ _ h.len];exact zHo)
theorem HtAt.store (h:HtAt w hb pc xs ha hn sb cb) (pc':Int) (xs':List Int) (ha' hn':Int) (hl:xs'.length=32) :
  (Instr.storeAt 47 (.pointer (some ⟨hb,0,none⟩)) (.agg (stV pc' xs' ha' hn').toArray)).run prog w=.ok () (w.setCells hb 0 (stV pc' xs' ha' hn')):=by
 have:=run_storeAt_mid (P:=prog) w hb 0 47 (stV pc' xs' ha' hn').toArray (by rw [List.size_toArray,zBY _ _ _ hl];exact h.there) (by rw [List.size_toArray,zBY _ _ _ hl];exact zHo) (zJg _ _ _ _)
 simpa using this
theorem HtAt.stored (h:HtAt w hb pc xs ha hn sb cb) (pc':Int) (xs':List Int) (ha' hn':Int) (hl:xs'.length=32):HtAt (w.setCells hb 0 (stV pc' xs' ha' hn')) hb pc' xs' ha' hn' sb cb∧Fr (only hb) w (w.setCells hb 0 (stV pc' xs' ha' hn')):=by
 refine ⟨⟨?_,hl⟩,?_⟩
 ·exact zEH [zB sb,zB cb] (stV pc' xs' ha' hn') (stV pc xs ha hn) [] w (by simpa using h.blk) (by rw [zBY _ _ _ hl,zBY _ _ _ h.len])
 ·have key:∀ (vs:List Value) (o:Nat) (w:World),Fr (only hb) w (w.setCells hb o vs):=by
   intro vs
   induction vs with
   | nil=>intro o w;exact Fr.zP (Bl.refl _)
   | cons v vs ih=>intro o w;rw [World.setCells];exact (Fr.set (S:=only hb) (p:=⟨hb,o,none⟩) rfl _).trans (ih _ _)
  exact key _ _ _
theorem StAt.load {w:World} {pc ha hn:Int} {xs:List Int} (h:StAt w b pc xs ha hn):(Instr.loadAt 47 (.pointer (some ⟨b,0,none⟩))).run prog w=.ok (.agg (stV pc xs ha hn).toArray) w:=
 run_loadAt_mid w b 0 _ _ _ (fun j v hv=>by rw [Nat.zero_add,zzc w b _ _ _ (0,0) h.blk,List.getElem?_toArray];exact hv) underlying47 rfl (by rw [zBY _ _ _ h.len];exact zHo)
theorem HtAt.rest (h:HtAt w hb pc xs ha hn sb cb) (a n:Int):HtAt ((w.setCell ⟨hb,33,none⟩ (.int .u64 a)).setCell ⟨hb,34,none⟩ (.int .i64 n)) hb pc xs a n sb cb:=by
 have hl:=zBY pc ha hn h.len;refine ⟨?_,h.len⟩;have h1:=zzs w hb 33 _ _ (.int .u64 a) h.blk;rw [List.setIfInBounds_toArray] at h1;rw [zzs _ hb 34 _ _ _ h1,List.setIfInBounds_toArray,List.set_append_left _ _ (by omega),List.set_append_left _ _ (by rw [List.length_set];omega),zFd _ _ _ _ _ h.len]
theorem HtAt.hold (h:HtAt w hb pc xs ha hn sb cb):w.cell? ⟨hb,33,none⟩=some (.int .u64 ha)∧w.cell? ⟨hb,34,none⟩=some (.int .i64 hn):=by
 have hl:=zBY pc ha hn h.len;obtain ⟨h1,h2⟩:=zIn pc ha hn h.len
 constructor<;>rw [h.cell,List.getElem?_append_left (by omega)]<;>assumption
end
section
variable {P:Program} (w:World) {ops:Array Oper} {rest:List Oper} {o:Oper} {a:Act} {Q:Exit→Act→World→Prop}
theorem wplL (hg:o.guard=none) (x:Operand) (t:TypeId) (hop:o.op=Op.load t x) (vx v1:Value) (hx:a.eval x=vx) (hrun:(Instr.loadAt t vx).run P w=.ok v1 w) (hK:wpList P ops Q rest (a.put o.dst v1) w):wpList P ops Q (o :: rest) a w:=by
 refine wpList_plain hg fun K' hK'=>?_
 unfold Oper.wp;simp [execOp,hop,hx,hrun,Result.andThen];exact hK' _ _ hK
theorem wplS (hg:o.guard=none) (x v:Operand) (t:TypeId) (hop:o.op=Op.store t x v) (vx vv:Value) (hx:a.eval x=vx) (hv:a.eval v=vv) (hrun:(Instr.storeAt t vx vv).run P w=.ok () w1) (hK:wpList P ops Q rest (a.put o.dst undef) w1):wpList P ops Q (o :: rest) a w:=by
 refine wpList_plain hg fun K' hK'=>?_
 unfold Oper.wp;simp [execOp,hop,hx,hv,hrun,Result.andThen];exact hK' _ _ hK
end
theorem zCY (w:World) (pc:Int) (xs:List Int) (ha hn:Int) (hl:xs.length=32) :
  (Instr.storeAt 47 (.pointer (some ⟨w.heap.size,0,none⟩)) (.agg (stV pc xs ha hn).toArray)).run prog (w.alloc (.cells #[.int .u64 0,.int .u64 0,.int .u64 0,.int .u64 0,.int .u64 0,.int .u64 0,.int .u64 0,.int .u64 0,.int .u64 0,.int .u64 0,.int .u64 0,.int .u64 0,.int .u64 0,.int .u64 0,.int .u64 0,.int .u64 0,.int .u64 0,.int .u64 0,.int .u64 0,.int .u64 0,.int .u64 0,.int .u64 0,.int .u64 0,.int .u64 0,.int .u64 0,.int .u64 0,.int .u64 0,.int .u64 0,.int .u64 0,.int .u64 0,.int .u64 0,.int .u64 0,.int .u64 0,.int .u64 0,.int .i64 0] 47))=.ok () (w.alloc (.cells (stV pc xs ha hn).toArray 47)):=
 run_storeAt_new (P:=prog) w 47 #[.int .u64 0,.int .u64 0,.int .u64 0,.int .u64 0,.int .u64 0,.int .u64 0,.int .u64 0,.int .u64 0,.int .u64 0,.int .u64 0,.int .u64 0,.int .u64 0,.int .u64 0,.int .u64 0,.int .u64 0,.int .u64 0,.int .u64 0,.int .u64 0,.int .u64 0,.int .u64 0,.int .u64 0,.int .u64 0,.int .u64 0,.int .u64 0,.int .u64 0,.int .u64 0,.int .u64 0,.int .u64 0,.int .u64 0,.int .u64 0,.int .u64 0,.int .u64 0,.int .u64 0,.int .u64 0,.int .i64 0] _ (by rw [List.size_toArray,zBY _ _ _ hl];exact zHo) (by show 35=(stV pc xs ha hn).toArray.size;rw [List.size_toArray,zBY pc ha hn hl]) (zJg _ _ _ _)
theorem hnew_any (w:World) (sb cb:Nat):Calls prog 28 #[zB sb,zB cb] w fun e w'=>e=.returned (zB w.heap.size)∧HtAt w' w.heap.size 0 (List.replicate 32 0) 0 0 sb cb∧Bl w w'∧w'.heap.size=w.heap.size+1:=by
 unfold zB;go_enter func28,ntmps28;go_wp2_with fail;go_ret;exact ⟨rfl,⟨zzn _ _,by simp⟩,Bl.new _ _,by simp⟩
theorem zEb {pc ha:Int} (h:HtAt w hb pc xs ha hn sb cb):
  Calls prog 17 #[zB hb] w fun e w'=>e=.returned (.agg (stV pc xs ha hn).toArray)∧Bl w w':=by
 have hsn:=zCY w pc xs ha hn h.len;have hld:=(h.bl (Bl.new w (.cells #[.int .u64 0,.int .u64 0,.int .u64 0,.int .u64 0,.int .u64 0,.int .u64 0,.int .u64 0,.int .u64 0,.int .u64 0,.int .u64 0,.int .u64 0,.int .u64 0,.int .u64 0,.int .u64 0,.int .u64 0,.int .u64 0,.int .u64 0,.int .u64 0,.int .u64 0,.int .u64 0,.int .u64 0,.int .u64 0,.int .u64 0,.int .u64 0,.int .u64 0,.int .u64 0,.int .u64 0,.int .u64 0,.int .u64 0,.int .u64 0,.int .u64 0,.int .u64 0,.int .u64 0,.int .u64 0,.int .i64 0] 47))).load;have hl:=h.len;clear h;unfold zB;go_enter func17,ntmps17;go_wp2_with (first
  | (refine wplL _ rfl (.tmp 8) 47 rfl _ _ rfl hld ?_)
  | (refine wplS _ rfl (.tmp 2) (.tmp 9) 47 rfl _ _ rfl rfl hsn ?_)
  | go_in)
 refine zzb (results_cell_row rfl _ _ w.heap.size 47 _ (0,0) _ rfl (zzn w (.cells (stV pc xs ha hn).toArray 47)) underlying47 rfl (by rw [List.size_toArray,zBY _ _ _ hl];exact zHo)) rfl ?_;exact ⟨rfl,Bl.new _ _⟩
theorem hset_any {pc ha:Int} (h:HtAt w hb pc xs ha hn sb cb) (p:Int) (ys:List Int) (a n:Int) (hl:ys.length=32):
  Calls prog 19 #[zB hb,.agg (stV p ys a n).toArray] w fun e w'=>e=.returned (.tuple #[])∧HtAt w' hb p (ys.set 0 0) a n sb cb∧Fr (only hb) w w':=by
 have K0:=hid (Bl.new w (.cells (stV p ys a n).toArray 47));have S0:=hid (⟨zzn w (.cells (stV p ys a n).toArray 47),hl⟩:StAt (w.alloc (.cells (stV p ys a n).toArray 47)) w.heap.size p ys a n);have H0:=hid (h.bl K0.out);have hlt:=h.lt;clear h;unfold zB;go_enter func19,ntmps19;go_upto_region 2 with (fail);generalize w.alloc (.cells (stV p ys a n).toArray 47)=W at *;have c0:=S0.out.x 0 (by omega);have z0:=S0.out.free (1+0);go_upto_region 3 with (fail);have S1:=hid (S0.out.zFg 0 (by omega) 0);have f1:Fr (only w.heap.size) W (W.setCell ⟨w.heap.size,1+0,none⟩ (.int .u64 0)):=Fr.set (S:=only w.heap.size) (p:=⟨w.heap.size,1+0,none⟩) rfl _;have H1:=hid (H0.out.fr f1 (fun e=>by have e3:hb=w.heap.size:=e;omega));have F1:=hid ((Fr.zP (S:=only hb) K0.out).zH (p:=⟨w.heap.size,1+0,none⟩) (zzr _) (.int .u64 0));clear c0 z0 f1;simp only [Nat.add_zero] at S1 H1 F1;generalize W.setCell ⟨w.heap.size,1,none⟩ (.int .u64 0)=V at *;have hld:=S1.out.load;have hsn:=H1.out.store p (ys.set 0 0) a n (by simp [hl]);go_wp2_with (first
  | (refine wplL _ rfl (.tmp 3) 47 rfl _ _ rfl hld ?_)
  | (refine wplS _ rfl (.tmp 11) (.tmp 9) 47 rfl _ _ rfl rfl hsn ?_)
  | go_in)
 refine bodyPost_end (results_none rfl _ _ _) rfl ?_;obtain ⟨g1,g2⟩:=H1.out.stored p (ys.set 0 0) a n (by simp [hl]);exact ⟨rfl,g1,F1.out.trans g2⟩
theorem hspace_any {pc ha:Int} (h:HtAt w hb pc xs ha hn sb cb):
  Calls prog 20 #[zB hb] w fun e w'=>e=.returned (zB sb)∧w=w':=by
 have c0:=h.ptrs.1;clear h;unfold zB at *;go_enter func20,ntmps20;go_wp2;go_ret;exact ⟨rfl,rfl⟩
end Go.Proofs.YtlhpodholnfppaaGreatDoor
