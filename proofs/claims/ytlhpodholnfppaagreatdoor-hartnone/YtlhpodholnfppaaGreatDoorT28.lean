/-
  The program's atomic instructions of a machine.
-/
import Derived.Test.YtlhpodholnfppaaGreatDoorT27
import Derived.Lib.Hide
set_option linter.unusedVariables false
set_option linter.unusedSimpArgs false
set_option maxHeartbeats 16000000
open Go.Lib (hid)
namespace Go.Proofs.YtlhpodholnfppaaGreatDoor
open Go.RowKit
set_option maxRecDepth 100000
def Keeps (g b:Nat) (w8 w9:World):Prop:=∀ p v,w8.cell? p = some v → (p.block = g ∨ p.block = b) → w9.cell? p = some v
theorem Keeps.bl {g b:Nat} {w8 w9:World} (k:Bl w8 w9):Keeps g b w8 w9:=fun p v h _=>k.cell' h
theorem Keeps.fr {U:Nat → Prop} {g b:Nat} {w8 w9:World} (k:Fr U w8 w9) (h1:¬ U g) (h2:¬ U b):Keeps g b w8 w9:=fun p v h e=>cell_fr h k (by rcases e with e | e <;> rw [e] <;> assumption)
theorem Keeps.trans {g b:Nat} {w7 w8 w9:World} (h:Keeps g b w7 w8) (k:Keeps g b w8 w9):Keeps g b w7 w9:=fun p v e q=>k p v (h p v e q) q
theorem Keeps.set {g b f:Nat} {w8 w9:World} (h:Keeps g b w8 w9) (h1:g ≠ f) (h2:b ≠ f) (i:Nat) (u:Value):Keeps g b w8 (w9.setCell ⟨f,i,none⟩ u):=
  h.trans (Keeps.fr (U:=only f) (Fr.set (S:=only f) (p:=⟨f,i,none⟩) rfl _) h1 h2)
theorem Keeps.rfl' {g b:Nat} {w:World}:Keeps g b w w:=fun _ _ h _=>h
theorem Keeps.alloc {g b:Nat} {w8 w9:World} {o:Obj} (h:Keeps g b w8 w9):Keeps g b w8 (w9.alloc o):=h.trans (Keeps.bl (Bl.new _ _))
theorem Keeps.drew {g b:Nat} {w8 w9:World} (h:Keeps g b w8 w9):Keeps g b w8 w9.drew:=h.trans (Keeps.bl (Bl.refl _).drew)
theorem Keeps.set_ {g b f i:Nat} {w8 w9:World} {u:Value} (h:Keeps g b w8 w9) (h1:g ≠ f) (h2:b ≠ f):Keeps g b w8 (w9.setCell ⟨f,i,none⟩ u):=h.set h1 h2 i u
theorem keep7 {g b i3 i4:Nat} {w8 w9:World} {v0 v1 v2 v3 v4 v5 v6:Value} (k:Keeps g b w8 w9) (h:w8.cell? ⟨g,0,none⟩ = some v0∧w8.cell? ⟨g,2,none⟩ = some v1∧w8.cell? ⟨g,3,none⟩ = some v2∧w8.cell? ⟨b,i3,none⟩ = some v3∧w8.cell? ⟨b,i4,none⟩ = some v4∧w8.cell? ⟨b,33,none⟩ = some v5∧w8.cell? ⟨b,34,none⟩ = some v6) :
    w9.cell? ⟨g,0,none⟩ = some v0∧w9.cell? ⟨g,2,none⟩ = some v1∧w9.cell? ⟨g,3,none⟩ = some v2∧w9.cell? ⟨b,i3,none⟩ = some v3∧w9.cell? ⟨b,i4,none⟩ = some v4∧w9.cell? ⟨b,33,none⟩ = some v5∧w9.cell? ⟨b,34,none⟩ = some v6:=
  ⟨k _ _ h.1 (.inl rfl),k _ _ h.2.1 (.inl rfl),k _ _ h.2.2.1 (.inl rfl),k _ _ h.2.2.2.1 (.inr rfl),k _ _ h.2.2.2.2.1 (.inr rfl),k _ _ h.2.2.2.2.2.1 (.inr rfl),k _ _ h.2.2.2.2.2.2 (.inr rfl)⟩
section
variable {T:Nat → Prop} {w:World} {b sb n:Nat} {pc ha hn:Int} {xs:List Int} {L:List Rg} {M st:Nat → Int} {mo ba en:Int}
structure AtZ (T:Nat → Prop) (w:World) (i:Td.Ins) (hi b sb n:Nat) (pc:Int) (xs:List Int) (ha hn:Int) (L:List Rg) (M st M':Nat → Int) (mo ba en:Int) (Z:World):Prop where
  ms:∃ st',Grow M M' st st'∧MS (gap T w.heap.size hi) Z sb n L M' st' mo ba en
  fr:Fr T w Z
  res:Z.heap[w.heap.size + 1]? = some (.cells #[.int .i64 0,.int .i64 0,.int .u64 0] 33 (0,0))
  box:Z.heap[w.heap.size]? = some (.cells (Td.I7 i.op i.rd i.r1 i.r2 i.im i.od i.sz) 38 (0,0))
  stt:StAt Z b pc xs ha hn
  hi_:w.heap.size + 1 < hi
theorem AtZ.alloc {i:Td.Ins} {hi:Nat} {M':Nat → Int} {Z:World} (h:AtZ T w i hi b sb n pc xs ha hn L M st M' mo ba en Z) (o:Obj):AtZ T w i hi b sb n pc xs ha hn L M st M' mo ba en (Z.alloc o):=by
  obtain ⟨st',hg,h1⟩:=h.ms
  have h2:=h.box
  exact ⟨⟨st',hg,h1.bl (Bl.new _ _)⟩,h.fr.trans (Fr.of_bl (Bl.new _ _)),(Bl.new _ _).at_ h.res,(Bl.new _ _).at_ h2,h.stt.bl (Bl.new _ _),h.hi_⟩
theorem AtZ.set {i:Td.Ins} {hi f:Nat} {M':Nat → Int} {Z:World} (h:AtZ T w i hi b sb n pc xs ha hn L M st M' mo ba en Z) (hf:w.heap.size + 1 < f) (hf2:f < hi) (hb:b < w.heap.size) (j:Nat) (u:Value):AtZ T w i hi b sb n pc xs ha hn L M st M' mo ba en (Z.setCell ⟨f,j,none⟩ u):=by
  obtain ⟨st',hg,h1⟩:=h.ms
  have h2:=h.box
  have k:Fr (only f) Z (Z.setCell ⟨f,j,none⟩ u):=Fr.set (S:=only f) (p:=⟨f,j,none⟩) rfl _
  exact ⟨⟨st',hg,h1.kept k (fun b e e2=>e.2 (by have e3:b = f:=e2;omega))⟩,h.fr.newCellC (p:=⟨f,j,none⟩) (by show w.heap.size ≤ f;omega) _,k.at_ h.res (fun e=>by have e3:w.heap.size + 1 = f:=e;omega),k.at_ h2 (fun e=>by have e3:w.heap.size = f:=e;omega),h.stt.fr k (fun e=>by have e3:b = f:=e;omega),h.hi_⟩
theorem alloc_at2 (w4:World) (f:Nat) (u v:Value) (i j:Nat) (o:Obj):(((w4.setCell ⟨f,i,none⟩ u).setCell ⟨f,j,none⟩ v).alloc o).heap[w4.heap.size]? = some o:=by
  have:=heap_alloc_new ((w4.setCell ⟨f,i,none⟩ u).setCell ⟨f,j,none⟩ v) o
  rwa [show ((w4.setCell ⟨f,i,none⟩ u).setCell ⟨f,j,none⟩ v).heap.size = w4.heap.size by simp [World.setCell]] at this
theorem alloc_at3 (w4:World) (f:Nat) (u v x:Value) (i j l:Nat) (o:Obj):((((w4.setCell ⟨f,i,none⟩ u).setCell ⟨f,j,none⟩ v).setCell ⟨f,l,none⟩ x).alloc o).heap[w4.heap.size]? = some o:=by
  have:=heap_alloc_new (((w4.setCell ⟨f,i,none⟩ u).setCell ⟨f,j,none⟩ v).setCell ⟨f,l,none⟩ x) o
  rwa [show (((w4.setCell ⟨f,i,none⟩ u).setCell ⟨f,j,none⟩ v).setCell ⟨f,l,none⟩ x).heap.size = w4.heap.size by simp [World.setCell]] at this
def AtomHaPost (T:Nat → Prop) (w:World) (b sb n:Nat) (pc:Int) (xs:List Int) (ha hn:Int) (L:List Rg) (M st:Nat → Int) (mo ba en:Int) (i:Td.Ins) (e:Ending) (w':World):Prop:=
  ∃ o M',StepIs L M ha hn i.op (rx xs i.r1).toNat (rx xs i.r2) o M'∧e = .returned (if o.k = 0 then stopV 0 0 0 else stopV o.k o.fk o.fa)∧(∃ st',Grow M M' st st'∧MS T w' sb (n + 9) L M' st' mo ba en)∧(o.k = 0 → StAt w' b pc (setX xs i.rd o.y) o.ta o.tn)∧Fr (fun x=>T x ∨ x = b) w w'
theorem atz_of {V w4:World} {M':Nat → Int} {op rd r1 r2 im od sz:Int} (hst:StAt w b pc xs ha hn) (kV:Bl w V) (hb:V.heap[w.heap.size]? = some (.cells (Td.I7 op rd r1 r2 im od sz) 38 (0,0))) (hr:V.heap[w.heap.size + 1]? = some (.cells #[.int .i64 0,.int .i64 0,.int .u64 0] 33 (0,0)))
    (hms:∃ st',Grow M M' st st'∧MS (gap T w.heap.size V.heap.size) w4 sb n L M' st' mo ba en) (hfr:Fr (gap T w.heap.size V.heap.size) V w4) (hTb:¬ T b):AtZ T w ⟨op,rd,r1,r2,im,od,sz⟩ V.heap.size b sb n pc xs ha hn L M st M' mo ba en w4:=by
  have hl:=lt_at hr
  exact ⟨hms,(Fr.of_bl kV).trans hfr.ungap,hfr.at_ hr (gap_no hl (Nat.le_succ _)),hfr.at_ hb (gap_no (by omega) (Nat.le_refl _)),(hst.bl kV).fr hfr (gap_not hTb),hl⟩
theorem haAtomic_any (h:StAt w b pc xs ha hn) (hR:Regs xs) (hm:MS T w sb n L M st mo ba en) (hTb:¬ T b) (hn0:n < 80000000) (hT:∀ b,w.heap.size ≤ b → T b) (i:Td.Ins) (hd:0 ≤ i.rd∧i.rd < 32) (hr:0 ≤ i.r1∧i.r1 < 32) (hr2:0 ≤ i.r2∧i.r2 < 32) :
    Calls Tryz.prog 87 #[addr0 b,addr0 sb,.agg i.cells] w (AtomHaPost T w b sb n pc xs ha hn L M st mo ba en i):=by
  have K0:=hid ((Bl.new w (.cells i.cells 38)).alloc (.cells #[.int .i64 0,.int .i64 0,.int .u64 0] 33))
  obtain ⟨b0,b1⟩:=two_newD w (.cells i.cells 38) (.cells #[.int .i64 0,.int .i64 0,.int .u64 0] 33)
  obtain ⟨a,haa⟩:=Int.eq_ofNat_of_zero_le (hR.rx i.r1).1
  have hab:a < 2 ^ 64:=by have:=(hR.rx i.r1).2;omega
  obtain ⟨x,hx⟩:∃ x,x = rx xs i.r2:=⟨_,rfl⟩
  have hxb:=hR.rx i.r2
  rw [← hx] at hxb
  have CS:=hid (fun W (k:Bl w W)=>step_any (hm.gap k w.heap.size W.heap.size (Nat.le_refl _)) ha hn i.op a x hab hxb.1 hxb.2 hn0 (gap_new hT w.heap.size k.size))
  have CP:=hid (fun V a n y (g:StAt V b pc xs a n)=>put_any g hR i.rd hd y)
  have H:=hid h;clear h
  have HT:=hid hT;clear hT
  have HTB:=hid hTb;clear hTb
  have hlt:=H.out.lt
  unfold AtomHaPost
  rw [haa,← hx]
  simp only [Int.toNat_natCast]
  obtain ⟨r,hr3⟩:=Int.eq_ofNat_of_zero_le hr.1
  obtain ⟨s,hs3⟩:=Int.eq_ofNat_of_zero_le hr2.1
  have hr':r < 32:=by omega
  have hs':s < 32:=by omega
  rw [hr3] at haa
  rw [hs3] at hx
  clear hm hab hn0 hR hr hr2 hxb
  have B0:=hid b0;clear b0
  have B1:=hid b1;clear b1
  obtain ⟨op,rd,r1,r2,im,od,sz⟩:=i
  simp only at hr3 hs3 CS CP
  subst hr3 hs3
  have HX:=hid hx;clear hx
  have HAA:=hid haa;clear haa
  have i1:(0:Int) ≤ (r:Int):=by omega
  have i2:(r:Int) < 32:=by omega
  have i3:(0:Int) ≤ (s:Int):=by omega
  have i4:(s:Int) < 32:=by omega
  unfold addr0 holdV at *
  go_enter Tryz.func87,Tryz.ntmps87
  go_upto_region 1 with (fail)
  generalize (w.alloc (.cells (Td.I7 op rd r s im od sz) 38)).alloc (.cells #[.int .i64 0,.int .i64 0,.int .u64 0] 33) = W at *
  have hstW:=H.out.bl K0.out
  have c3:=hstW.rx r hr'
  have c4:=hstW.rx s hs'
  rw [← HX.out] at c4
  rw [HAA.out] at c3
  obtain ⟨c5,c6⟩:=hstW.hold
  obtain ⟨d0,d1,d2,d3,d4,d5,d6⟩:=seven_at B0.out
  have HS:=hid (And.intro d0 (And.intro d2 (And.intro d3 (And.intro c3 (And.intro c4 (And.intro c5 c6))))))
  have HW:=hid hstW
  clear d0 d1 d2 d3 d4 d5 d6 c3 c4 c5 c6 hstW
  go_region_held3 (fun w'=>w'.cell? ⟨w.heap.size,0,none⟩ = some (.int .i64 op)∧w'.cell? ⟨w.heap.size,2,none⟩ = some (.int .i64 r)∧w'.cell? ⟨w.heap.size,3,none⟩ = some (.int .i64 s)∧w'.cell? ⟨b,1 + r,none⟩ = some (.int .u64 a)∧w'.cell? ⟨b,1 + s,none⟩ = some (.int .u64 x)∧w'.cell? ⟨b,33,none⟩ = some (.int .u64 ha)∧w'.cell? ⟨b,34,none⟩ = some (.int .i64 hn)) (first | (refine keep7 (w8:=w4) ?_ hkk;((repeat' (first | with_reducible apply Keeps.rfl' | with_reducible apply Keeps.set_ | with_reducible apply Keeps.alloc | with_reducible apply Keeps.drew)) <;> (have h1:=lt_at B1.out;omega))) | (refine keep7 (w8:=W) ?_ HS.out;((repeat' (first | with_reducible apply Keeps.rfl' | with_reducible apply Keeps.set_ | with_reducible apply Keeps.alloc | with_reducible apply Keeps.drew)) <;> (have h1:=lt_at B1.out;omega)))) (first
    | (go_at_call 132;with_reducible refine (CS.out ((W.alloc (.cells #[.int .u64 0,.int .i64 0] 45)).alloc (.cells #[.int .i64 0,.int .i64 0,.int .u64 0] 33)).drew ((K0.out.alloc _).alloc _).drew).mono ?_;rintro e w4 hh;unfold StepPost at hh;obtain ⟨⟨y,ta,tn,k,fk,fa⟩,M',rfl,hs,hms,hfr⟩:=hh;have HLT:=hid (lt_at (((Bl.new W (.cells #[.int .u64 0,.int .i64 0] 45)).alloc (.cells #[.int .i64 0,.int .i64 0,.int .u64 0] 33)).drew.at_ B1.out));have hkk:=keep7 (w9:=w4) ((Keeps.bl (((Bl.refl W).alloc _).alloc _).drew).trans (Keeps.fr hfr (gap_no (Nat.lt_of_succ_lt HLT.out) (Nat.le_refl _)) (gap_not HTB.out))) HS.out;have HZ:=hid (atz_of H.out ((K0.out.alloc _).alloc _).drew (((Bl.new W (.cells #[.int .u64 0,.int .i64 0] 45)).alloc (.cells #[.int .i64 0,.int .i64 0,.int .u64 0] 33)).drew.at_ B0.out) (((Bl.new W (.cells #[.int .u64 0,.int .i64 0] 45)).alloc (.cells #[.int .i64 0,.int .i64 0,.int .u64 0] 33)).drew.at_ B1.out) hms hfr HTB.out);have FA:=hid (hfr.at_ (drew_at ((Bl.new (W.alloc (.cells #[.int .u64 0,.int .i64 0] 45)) (.cells #[.int .i64 0,.int .i64 0,.int .u64 0] 33)).at_ (heap_alloc_new W (.cells #[.int .u64 0,.int .i64 0] 45)))) (gap_no (lt_at (drew_at ((Bl.new (W.alloc (.cells #[.int .u64 0,.int .i64 0] 45)) (.cells #[.int .i64 0,.int .i64 0,.int .u64 0] 33)).at_ (heap_alloc_new W (.cells #[.int .u64 0,.int .i64 0] 45))))) (Nat.le_of_lt (by have h1:=lt_at B1.out;first | omega | (simp only [World.alloc,Array.size_push];omega)))));obtain ⟨p0,p1,p2,p3⟩:=row2 FA.out;have hlA:=lt_at FA.out;have FB:=hid (hfr.at_ (drew_at (new_next W (.cells #[.int .u64 0,.int .i64 0] 45) (.cells #[.int .i64 0,.int .i64 0,.int .u64 0] 33))) (gap_no (lt_at (drew_at (new_next W (.cells #[.int .u64 0,.int .i64 0] 45) (.cells #[.int .i64 0,.int .i64 0,.int .u64 0] 33)))) (Nat.le_of_lt (by have h1:=lt_at B1.out;first | omega | (simp only [World.alloc,Array.size_push];omega)))));obtain ⟨q0,q1,q2⟩:=three_at FB.out;have q3:=free_at FB.out;have hlB:=lt_at FB.out;(try unfold Out.v);(try unfold holdV stopV))
    | (go_at_call 132;with_reducible refine (CS.out ((W.alloc (.cells #[.int .i64 0,.int .i64 0,.int .u64 0] 33)).alloc (.cells #[.int .u64 0,.int .i64 0] 45)).drew ((K0.out.alloc _).alloc _).drew).mono ?_;rintro e w4 hh;unfold StepPost at hh;obtain ⟨⟨y,ta,tn,k,fk,fa⟩,M',rfl,hs,hms,hfr⟩:=hh;have HLT:=hid (lt_at (((Bl.new W (.cells #[.int .i64 0,.int .i64 0,.int .u64 0] 33)).alloc (.cells #[.int .u64 0,.int .i64 0] 45)).drew.at_ B1.out));have hkk:=keep7 (w9:=w4) ((Keeps.bl (((Bl.refl W).alloc _).alloc _).drew).trans (Keeps.fr hfr (gap_no (Nat.lt_of_succ_lt HLT.out) (Nat.le_refl _)) (gap_not HTB.out))) HS.out;have HZ:=hid (atz_of H.out ((K0.out.alloc _).alloc _).drew (((Bl.new W (.cells #[.int .i64 0,.int .i64 0,.int .u64 0] 33)).alloc (.cells #[.int .u64 0,.int .i64 0] 45)).drew.at_ B0.out) (((Bl.new W (.cells #[.int .i64 0,.int .i64 0,.int .u64 0] 33)).alloc (.cells #[.int .u64 0,.int .i64 0] 45)).drew.at_ B1.out) hms hfr HTB.out);have FB:=hid (hfr.at_ (drew_at ((Bl.new (W.alloc (.cells #[.int .i64 0,.int .i64 0,.int .u64 0] 33)) (.cells #[.int .u64 0,.int .i64 0] 45)).at_ (heap_alloc_new W (.cells #[.int .i64 0,.int .i64 0,.int .u64 0] 33)))) (gap_no (lt_at (drew_at ((Bl.new (W.alloc (.cells #[.int .i64 0,.int .i64 0,.int .u64 0] 33)) (.cells #[.int .u64 0,.int .i64 0] 45)).at_ (heap_alloc_new W (.cells #[.int .i64 0,.int .i64 0,.int .u64 0] 33))))) (Nat.le_of_lt (by have h1:=lt_at B1.out;first | omega | (simp only [World.alloc,Array.size_push];omega)))));obtain ⟨q0,q1,q2⟩:=three_at FB.out;have q3:=free_at FB.out;have hlB:=lt_at FB.out;have FA:=hid (hfr.at_ (drew_at (new_next W (.cells #[.int .i64 0,.int .i64 0,.int .u64 0] 33) (.cells #[.int .u64 0,.int .i64 0] 45))) (gap_no (lt_at (drew_at (new_next W (.cells #[.int .i64 0,.int .i64 0,.int .u64 0] 33) (.cells #[.int .u64 0,.int .i64 0] 45)))) (Nat.le_of_lt (by have h1:=lt_at B1.out;first | omega | (simp only [World.alloc,Array.size_push];omega)))));obtain ⟨p0,p1,p2,p3⟩:=row2 FA.out;have hlA:=lt_at FA.out;(try unfold Out.v);(try unfold holdV stopV))
    | (go_at_call 132;with_reducible refine (CS.out (W.alloc (.cells #[.int .u64 0,.int .i64 0] 45)).drew (K0.out.alloc _).drew).mono ?_;rintro e w4 hh;unfold StepPost at hh;obtain ⟨⟨y,ta,tn,k,fk,fa⟩,M',rfl,hs,hms,hfr⟩:=hh;have HLT:=hid (lt_at ((Bl.new W (.cells #[.int .u64 0,.int .i64 0] 45)).drew.at_ B1.out));have hkk:=keep7 (w9:=w4) ((Keeps.bl ((Bl.refl W).alloc _).drew).trans (Keeps.fr hfr (gap_no (Nat.lt_of_succ_lt HLT.out) (Nat.le_refl _)) (gap_not HTB.out))) HS.out;have HZ:=hid (atz_of H.out (K0.out.alloc _).drew ((Bl.new W (.cells #[.int .u64 0,.int .i64 0] 45)).drew.at_ B0.out) ((Bl.new W (.cells #[.int .u64 0,.int .i64 0] 45)).drew.at_ B1.out) hms hfr HTB.out);have FA:=hid (hfr.at_ (drew_at (heap_alloc_new W (.cells #[.int .u64 0,.int .i64 0] 45))) (gap_no (lt_at (drew_at (heap_alloc_new W (.cells #[.int .u64 0,.int .i64 0] 45)))) (Nat.le_of_lt (by have h1:=lt_at B1.out;first | omega | (simp only [World.alloc,Array.size_push];omega)))));obtain ⟨p0,p1,p2,p3⟩:=row2 FA.out;have hlA:=lt_at FA.out;(try unfold Out.v);(try unfold holdV stopV))
    | (go_at_call 132;with_reducible refine (CS.out (W.alloc (.cells #[.int .i64 0,.int .i64 0,.int .u64 0] 33)).drew (K0.out.alloc _).drew).mono ?_;rintro e w4 hh;unfold StepPost at hh;obtain ⟨⟨y,ta,tn,k,fk,fa⟩,M',rfl,hs,hms,hfr⟩:=hh;have HLT:=hid (lt_at ((Bl.new W (.cells #[.int .i64 0,.int .i64 0,.int .u64 0] 33)).drew.at_ B1.out));have hkk:=keep7 (w9:=w4) ((Keeps.bl ((Bl.refl W).alloc _).drew).trans (Keeps.fr hfr (gap_no (Nat.lt_of_succ_lt HLT.out) (Nat.le_refl _)) (gap_not HTB.out))) HS.out;have HZ:=hid (atz_of H.out (K0.out.alloc _).drew ((Bl.new W (.cells #[.int .i64 0,.int .i64 0,.int .u64 0] 33)).drew.at_ B0.out) ((Bl.new W (.cells #[.int .i64 0,.int .i64 0,.int .u64 0] 33)).drew.at_ B1.out) hms hfr HTB.out);have FB:=hid (hfr.at_ (drew_at (heap_alloc_new W (.cells #[.int .i64 0,.int .i64 0,.int .u64 0] 33))) (gap_no (lt_at (drew_at (heap_alloc_new W (.cells #[.int .i64 0,.int .i64 0,.int .u64 0] 33)))) (Nat.le_of_lt (by have h1:=lt_at B1.out;first | omega | (simp only [World.alloc,Array.size_push];omega)))));obtain ⟨q0,q1,q2⟩:=three_at FB.out;have q3:=free_at FB.out;have hlB:=lt_at FB.out;(try unfold Out.v);(try unfold holdV stopV))
    | (go_at_call 132;with_reducible refine (CS.out W.drew K0.out.drew).mono ?_;rintro e w4 hh;unfold StepPost at hh;obtain ⟨⟨y,ta,tn,k,fk,fa⟩,M',rfl,hs,hms,hfr⟩:=hh;have HLT:=hid (lt_at ((Bl.refl W).drew.at_ B1.out));have hkk:=keep7 (w9:=w4) ((Keeps.bl (Bl.refl W).drew).trans (Keeps.fr hfr (gap_no (Nat.lt_of_succ_lt HLT.out) (Nat.le_refl _)) (gap_not HTB.out))) HS.out;have HZ:=hid (atz_of H.out K0.out.drew ((Bl.refl W).drew.at_ B0.out) ((Bl.refl W).drew.at_ B1.out) hms hfr HTB.out);(try unfold Out.v);(try unfold holdV stopV)))
  · have HB_:=hid HLT.out
    have az:AtZ T w _ _ b sb (n + 9) pc xs ha hn L M st M' mo ba en ((w4.alloc (.cells #[.int .u64 ta,.int .i64 tn] 45)).alloc (.cells #[.int .i64 k,.int .i64 fk,.int .u64 fa] 33)):=(HZ.out.alloc _).alloc _
    have F1:Hid (((w4.alloc (.cells #[.int .u64 ta,.int .i64 tn] 45)).alloc (.cells #[.int .i64 k,.int .i64 fk,.int .u64 fa] 33)).heap[w4.heap.size]? = some (.cells #[.int .u64 ta,.int .i64 tn] 45 (0,0))):=hid ((Bl.new _ _).at_ (heap_alloc_new w4 (.cells #[.int .u64 ta,.int .i64 tn] 45)))
    have F2:Hid (((w4.alloc (.cells #[.int .u64 ta,.int .i64 tn] 45)).alloc (.cells #[.int .i64 k,.int .i64 fk,.int .u64 fa] 33)).heap[w4.heap.size + 1]? = some (.cells #[.int .i64 k,.int .i64 fk,.int .u64 fa] 33 (0,0))):=hid (new_next w4 (.cells #[.int .u64 ta,.int .i64 tn] 45) (.cells #[.int .i64 k,.int .i64 fk,.int .u64 fa] 33))
    have n1:w.heap.size + 1 < w4.heap.size:=(by have h1:=lt_at B1.out;have h2:=lt_at HZ.out.res;omega)
    have n2:w.heap.size + 1 < w4.heap.size + 1:=(by have h1:=lt_at B1.out;have h2:=lt_at HZ.out.res;omega)
    generalize (w4.alloc (.cells #[.int .u64 ta,.int .i64 tn] 45)).alloc (.cells #[.int .i64 k,.int .i64 fk,.int .u64 fa] 33) = Z at *
    generalize hf1:w4.heap.size = f1 at *
    generalize hf2:w4.heap.size + 1 = f2 at *
    clear hkk HZ CS HS hms hfr HW
    have AZ:=hid az;clear az
    have HIS:=hid hs;clear hs
    obtain ⟨c0,c1,c2⟩:=three_at F2.out
    have z1:=free_at AZ.out.res
    obtain ⟨e0,e1,e2⟩:=three_at AZ.out.res
    (try simp only [Exit.inBlock,Exit.then])
    by_cases hk:k = 0
    · subst hk
      have hst:=AZ.out.stt
      obtain ⟨_,g1,_⟩:=seven_at AZ.out.box
      go_wp2_with fail
      with_reducible refine (CP.out _ _ _ _ hst).mono ?_
      rintro e w5 ⟨rfl,h5,k5,z5⟩
      have G1:=hid (k5.at_ F1.out (fun e=>by have e3:f1 = b:=e;omega))
      have G2:=hid (k5.at_ AZ.out.res (fun e=>by have e3:w.heap.size + 1 = b:=e;omega))
      have H5:=hid h5;clear h5
      have K5:=hid k5;clear k5
      clear c0 c1 c2 e0 e1 e2 g1 z1 hst
      obtain ⟨c0,c1,c2,c3⟩:=row2 G1.out
      obtain ⟨e0,e1,e2⟩:=three_at G2.out
      have z1:=free_at G2.out
      obtain ⟨g0,g1⟩:=H5.out.hold
      have z2:=H5.out.free
      go_wp2_with fail
      (try simp only [Exit.inBlock,Exit.then])
      have h6:=H5.out.setHold ta tn
      have k6:Fr (only b) w5 ((w5.setCell ⟨b,33,none⟩ (.int .u64 ta)).setCell ⟨b,34,none⟩ (.int .i64 tn)):=(Fr.set (S:=only b) (p:=⟨b,33,none⟩) rfl _).trans (Fr.set (S:=only b) (p:=⟨b,34,none⟩) rfl _)
      have G6:=k6.at_ G2.out (fun e=>by have e3:w.heap.size + 1 = b:=e;omega)
      generalize ((w5.setCell ⟨b,33,none⟩ (.int .u64 ta)).setCell ⟨b,34,none⟩ (.int .i64 tn)) = Y at *
      refine bodyPost_ret (results_cell_row rfl _ _ (w.heap.size + 1) 33 _ (0,0) _ rfl (set3 (.int .i64 0) (.int .i64 0) (.int .u64 0) G6) Tryz.underlying33 rfl (by kernel_rfl)) rfl ?_
      have k7:Fr (only (w.heap.size + 1)) Y (((Y.setCell ⟨w.heap.size + 1,0,none⟩ (.int .i64 0)).setCell ⟨w.heap.size + 1,1,none⟩ (.int .i64 0)).setCell ⟨w.heap.size + 1,2,none⟩ (.int .u64 0)):=((Fr.set (S:=only (w.heap.size + 1)) (p:=⟨w.heap.size + 1,0,none⟩) rfl _).trans (Fr.set (S:=only (w.heap.size + 1)) (p:=⟨w.heap.size + 1,1,none⟩) rfl _)).trans (Fr.set (S:=only (w.heap.size + 1)) (p:=⟨w.heap.size + 1,2,none⟩) rfl _)
      obtain ⟨st',hg6,hm6⟩:=AZ.out.ms
      have hm7:=((hm6.kept K5.out (fun x e e2=>HTB.out (by rw [← show x = b from e2];exact e.1))).kept k6 (fun x e e2=>HTB.out (by rw [← show x = b from e2];exact e.1))).kept k7 (fun x e e2=>e.2 (by have e3:x = w.heap.size + 1:=e2;have:=AZ.out.hi_;omega))
      refine ⟨⟨y,ta,tn,0,fk,fa⟩,M',HIS.out,by rw [if_pos rfl];rfl,⟨st',hg6,hm7.ungap⟩,fun _=>h6.fr k7 (fun e=>by have e3:b = w.heap.size + 1:=e;omega),?_⟩
      have f9:Fr (fun x=>T x ∨ x = b) w Y:=((AZ.out.fr.mono fun x _ e=>.inl e).trans (K5.out.mono fun x _ e=>.inr e)).trans (k6.mono fun x _ e=>.inr e)
      exact ((f9.newCellC (p:=⟨w.heap.size + 1,0,none⟩) (by simp) _).newCellC (p:=⟨w.heap.size + 1,1,none⟩) (by simp) _).newCellC (p:=⟨w.heap.size + 1,2,none⟩) (by simp) _
    · have hk':=nin hk
      go_wp2_with fail
      (try simp only [Exit.inBlock,Exit.then])
      refine bodyPost_ret (results_cell_row rfl _ _ (w.heap.size + 1) 33 _ (0,0) _ rfl (set3 (.int .i64 k) (.int .i64 fk) (.int .u64 fa) AZ.out.res) Tryz.underlying33 rfl (by kernel_rfl)) rfl ?_
      have k7:Fr (only (w.heap.size + 1)) Z (((Z.setCell ⟨w.heap.size + 1,0,none⟩ (.int .i64 k)).setCell ⟨w.heap.size + 1,1,none⟩ (.int .i64 fk)).setCell ⟨w.heap.size + 1,2,none⟩ (.int .u64 fa)):=((Fr.set (S:=only (w.heap.size + 1)) (p:=⟨w.heap.size + 1,0,none⟩) rfl _).trans (Fr.set (S:=only (w.heap.size + 1)) (p:=⟨w.heap.size + 1,1,none⟩) rfl _)).trans (Fr.set (S:=only (w.heap.size + 1)) (p:=⟨w.heap.size + 1,2,none⟩) rfl _)
      obtain ⟨st',hg6,hm6⟩:=AZ.out.ms
      have hm7:=hm6.kept k7 (fun x e e2=>e.2 (by have e3:x = w.heap.size + 1:=e2;have:=AZ.out.hi_;omega))
      refine ⟨⟨y,ta,tn,k,fk,fa⟩,M',HIS.out,by rw [if_neg hk];rfl,⟨st',hg6,hm7.ungap⟩,fun e=>absurd e hk,?_⟩
      exact (((AZ.out.fr.mono (fun x _ e=>.inl e)).newCellC (p:=⟨w.heap.size + 1,0,none⟩) (by simp) _).newCellC (p:=⟨w.heap.size + 1,1,none⟩) (by simp) _).newCellC (p:=⟨w.heap.size + 1,2,none⟩) (by simp) _
  · have HB_:=hid HLT.out
    have az:AtZ T w _ _ b sb (n + 9) pc xs ha hn L M st M' mo ba en ((w4.alloc (.cells #[.int .i64 k,.int .i64 fk,.int .u64 fa] 33)).alloc (.cells #[.int .u64 ta,.int .i64 tn] 45)):=(HZ.out.alloc _).alloc _
    have F1:Hid (((w4.alloc (.cells #[.int .i64 k,.int .i64 fk,.int .u64 fa] 33)).alloc (.cells #[.int .u64 ta,.int .i64 tn] 45)).heap[w4.heap.size + 1]? = some (.cells #[.int .u64 ta,.int .i64 tn] 45 (0,0))):=hid (new_next w4 (.cells #[.int .i64 k,.int .i64 fk,.int .u64 fa] 33) (.cells #[.int .u64 ta,.int .i64 tn] 45))
    have F2:Hid (((w4.alloc (.cells #[.int .i64 k,.int .i64 fk,.int .u64 fa] 33)).alloc (.cells #[.int .u64 ta,.int .i64 tn] 45)).heap[w4.heap.size]? = some (.cells #[.int .i64 k,.int .i64 fk,.int .u64 fa] 33 (0,0))):=hid ((Bl.new _ _).at_ (heap_alloc_new w4 (.cells #[.int .i64 k,.int .i64 fk,.int .u64 fa] 33)))
    have n1:w.heap.size + 1 < w4.heap.size + 1:=(by have h1:=lt_at B1.out;have h2:=lt_at HZ.out.res;omega)
    have n2:w.heap.size + 1 < w4.heap.size:=(by have h1:=lt_at B1.out;have h2:=lt_at HZ.out.res;omega)
    generalize (w4.alloc (.cells #[.int .i64 k,.int .i64 fk,.int .u64 fa] 33)).alloc (.cells #[.int .u64 ta,.int .i64 tn] 45) = Z at *
    generalize hf1:w4.heap.size + 1 = f1 at *
    generalize hf2:w4.heap.size = f2 at *
    clear hkk HZ CS HS hms hfr HW
    have AZ:=hid az;clear az
    have HIS:=hid hs;clear hs
    obtain ⟨c0,c1,c2⟩:=three_at F2.out
    have z1:=free_at AZ.out.res
    obtain ⟨e0,e1,e2⟩:=three_at AZ.out.res
    (try simp only [Exit.inBlock,Exit.then])
    by_cases hk:k = 0
    · subst hk
      have hst:=AZ.out.stt
      obtain ⟨_,g1,_⟩:=seven_at AZ.out.box
      go_wp2_with fail
      with_reducible refine (CP.out _ _ _ _ hst).mono ?_
      rintro e w5 ⟨rfl,h5,k5,z5⟩
      have G1:=hid (k5.at_ F1.out (fun e=>by have e3:f1 = b:=e;omega))
      have G2:=hid (k5.at_ AZ.out.res (fun e=>by have e3:w.heap.size + 1 = b:=e;omega))
      have H5:=hid h5;clear h5
      have K5:=hid k5;clear k5
      clear c0 c1 c2 e0 e1 e2 g1 z1 hst
      obtain ⟨c0,c1,c2,c3⟩:=row2 G1.out
      obtain ⟨e0,e1,e2⟩:=three_at G2.out
      have z1:=free_at G2.out
      obtain ⟨g0,g1⟩:=H5.out.hold
      have z2:=H5.out.free
      go_wp2_with fail
      (try simp only [Exit.inBlock,Exit.then])
      have h6:=H5.out.setHold ta tn
      have k6:Fr (only b) w5 ((w5.setCell ⟨b,33,none⟩ (.int .u64 ta)).setCell ⟨b,34,none⟩ (.int .i64 tn)):=(Fr.set (S:=only b) (p:=⟨b,33,none⟩) rfl _).trans (Fr.set (S:=only b) (p:=⟨b,34,none⟩) rfl _)
      have G6:=k6.at_ G2.out (fun e=>by have e3:w.heap.size + 1 = b:=e;omega)
      generalize ((w5.setCell ⟨b,33,none⟩ (.int .u64 ta)).setCell ⟨b,34,none⟩ (.int .i64 tn)) = Y at *
      refine bodyPost_ret (results_cell_row rfl _ _ (w.heap.size + 1) 33 _ (0,0) _ rfl (set3 (.int .i64 0) (.int .i64 0) (.int .u64 0) G6) Tryz.underlying33 rfl (by kernel_rfl)) rfl ?_
      have k7:Fr (only (w.heap.size + 1)) Y (((Y.setCell ⟨w.heap.size + 1,0,none⟩ (.int .i64 0)).setCell ⟨w.heap.size + 1,1,none⟩ (.int .i64 0)).setCell ⟨w.heap.size + 1,2,none⟩ (.int .u64 0)):=((Fr.set (S:=only (w.heap.size + 1)) (p:=⟨w.heap.size + 1,0,none⟩) rfl _).trans (Fr.set (S:=only (w.heap.size + 1)) (p:=⟨w.heap.size + 1,1,none⟩) rfl _)).trans (Fr.set (S:=only (w.heap.size + 1)) (p:=⟨w.heap.size + 1,2,none⟩) rfl _)
      obtain ⟨st',hg6,hm6⟩:=AZ.out.ms
      have hm7:=((hm6.kept K5.out (fun x e e2=>HTB.out (by rw [← show x = b from e2];exact e.1))).kept k6 (fun x e e2=>HTB.out (by rw [← show x = b from e2];exact e.1))).kept k7 (fun x e e2=>e.2 (by have e3:x = w.heap.size + 1:=e2;have:=AZ.out.hi_;omega))
      refine ⟨⟨y,ta,tn,0,fk,fa⟩,M',HIS.out,by rw [if_pos rfl];rfl,⟨st',hg6,hm7.ungap⟩,fun _=>h6.fr k7 (fun e=>by have e3:b = w.heap.size + 1:=e;omega),?_⟩
      have f9:Fr (fun x=>T x ∨ x = b) w Y:=((AZ.out.fr.mono fun x _ e=>.inl e).trans (K5.out.mono fun x _ e=>.inr e)).trans (k6.mono fun x _ e=>.inr e)
      exact ((f9.newCellC (p:=⟨w.heap.size + 1,0,none⟩) (by simp) _).newCellC (p:=⟨w.heap.size + 1,1,none⟩) (by simp) _).newCellC (p:=⟨w.heap.size + 1,2,none⟩) (by simp) _
    · have hk':=nin hk
      go_wp2_with fail
      (try simp only [Exit.inBlock,Exit.then])
      refine bodyPost_ret (results_cell_row rfl _ _ (w.heap.size + 1) 33 _ (0,0) _ rfl (set3 (.int .i64 k) (.int .i64 fk) (.int .u64 fa) AZ.out.res) Tryz.underlying33 rfl (by kernel_rfl)) rfl ?_
      have k7:Fr (only (w.heap.size + 1)) Z (((Z.setCell ⟨w.heap.size + 1,0,none⟩ (.int .i64 k)).setCell ⟨w.heap.size + 1,1,none⟩ (.int .i64 fk)).setCell ⟨w.heap.size + 1,2,none⟩ (.int .u64 fa)):=((Fr.set (S:=only (w.heap.size + 1)) (p:=⟨w.heap.size + 1,0,none⟩) rfl _).trans (Fr.set (S:=only (w.heap.size + 1)) (p:=⟨w.heap.size + 1,1,none⟩) rfl _)).trans (Fr.set (S:=only (w.heap.size + 1)) (p:=⟨w.heap.size + 1,2,none⟩) rfl _)
      obtain ⟨st',hg6,hm6⟩:=AZ.out.ms
      have hm7:=hm6.kept k7 (fun x e e2=>e.2 (by have e3:x = w.heap.size + 1:=e2;have:=AZ.out.hi_;omega))
      refine ⟨⟨y,ta,tn,k,fk,fa⟩,M',HIS.out,by rw [if_neg hk];rfl,⟨st',hg6,hm7.ungap⟩,fun e=>absurd e hk,?_⟩
      exact (((AZ.out.fr.mono (fun x _ e=>.inl e)).newCellC (p:=⟨w.heap.size + 1,0,none⟩) (by simp) _).newCellC (p:=⟨w.heap.size + 1,1,none⟩) (by simp) _).newCellC (p:=⟨w.heap.size + 1,2,none⟩) (by simp) _
  · have HB_:=hid HLT.out
    have az:AtZ T w _ _ b sb (n + 9) pc xs ha hn L M st M' mo ba en (((w4.setCell ⟨W.heap.size,0,none⟩ (.int .u64 ta)).setCell ⟨W.heap.size,1,none⟩ (.int .i64 tn)).alloc (.cells #[.int .i64 k,.int .i64 fk,.int .u64 fa] 33)):=AtZ.alloc ((HZ.out.set (by have h1:=lt_at B1.out;have h2:=lt_at HZ.out.res;omega) (by have h1:=lt_at B1.out;first | omega | (simp only [World.alloc,World.drew,Array.size_push];omega)) hlt _ _).set (by have h1:=lt_at B1.out;have h2:=lt_at HZ.out.res;omega) (by have h1:=lt_at B1.out;first | omega | (simp only [World.alloc,World.drew,Array.size_push];omega)) hlt _ _) _
    have F1:Hid ((((w4.setCell ⟨W.heap.size,0,none⟩ (.int .u64 ta)).setCell ⟨W.heap.size,1,none⟩ (.int .i64 tn)).alloc (.cells #[.int .i64 k,.int .i64 fk,.int .u64 fa] 33)).heap[W.heap.size]? = some (.cells #[.int .u64 ta,.int .i64 tn] 45 (0,0))):=hid ((Bl.new _ _).at_ (set2 _ _ FA.out))
    have F2:Hid ((((w4.setCell ⟨W.heap.size,0,none⟩ (.int .u64 ta)).setCell ⟨W.heap.size,1,none⟩ (.int .i64 tn)).alloc (.cells #[.int .i64 k,.int .i64 fk,.int .u64 fa] 33)).heap[w4.heap.size]? = some (.cells #[.int .i64 k,.int .i64 fk,.int .u64 fa] 33 (0,0))):=hid (alloc_at2 _ _ _ _ _ _ _)
    have n1:w.heap.size + 1 < W.heap.size:=(by have h1:=lt_at B1.out;have h2:=lt_at HZ.out.res;omega)
    have n2:w.heap.size + 1 < w4.heap.size:=(by have h1:=lt_at B1.out;have h2:=lt_at HZ.out.res;omega)
    generalize ((w4.setCell ⟨W.heap.size,0,none⟩ (.int .u64 ta)).setCell ⟨W.heap.size,1,none⟩ (.int .i64 tn)).alloc (.cells #[.int .i64 k,.int .i64 fk,.int .u64 fa] 33) = Z at *
    generalize hf1:W.heap.size = f1 at *
    generalize hf2:w4.heap.size = f2 at *
    clear hkk HZ CS HS hms hfr HW
    have AZ:=hid az;clear az
    have HIS:=hid hs;clear hs
    obtain ⟨c0,c1,c2⟩:=three_at F2.out
    have z1:=free_at AZ.out.res
    obtain ⟨e0,e1,e2⟩:=three_at AZ.out.res
    (try simp only [Exit.inBlock,Exit.then])
    by_cases hk:k = 0
    · subst hk
      have hst:=AZ.out.stt
      obtain ⟨_,g1,_⟩:=seven_at AZ.out.box
      go_wp2_with fail
      with_reducible refine (CP.out _ _ _ _ hst).mono ?_
      rintro e w5 ⟨rfl,h5,k5,z5⟩
      have G1:=hid (k5.at_ F1.out (fun e=>by have e3:f1 = b:=e;omega))
      have G2:=hid (k5.at_ AZ.out.res (fun e=>by have e3:w.heap.size + 1 = b:=e;omega))
      have H5:=hid h5;clear h5
      have K5:=hid k5;clear k5
      clear c0 c1 c2 e0 e1 e2 g1 z1 hst
      obtain ⟨c0,c1,c2,c3⟩:=row2 G1.out
      obtain ⟨e0,e1,e2⟩:=three_at G2.out
      have z1:=free_at G2.out
      obtain ⟨g0,g1⟩:=H5.out.hold
      have z2:=H5.out.free
      go_wp2_with fail
      (try simp only [Exit.inBlock,Exit.then])
      have h6:=H5.out.setHold ta tn
      have k6:Fr (only b) w5 ((w5.setCell ⟨b,33,none⟩ (.int .u64 ta)).setCell ⟨b,34,none⟩ (.int .i64 tn)):=(Fr.set (S:=only b) (p:=⟨b,33,none⟩) rfl _).trans (Fr.set (S:=only b) (p:=⟨b,34,none⟩) rfl _)
      have G6:=k6.at_ G2.out (fun e=>by have e3:w.heap.size + 1 = b:=e;omega)
      generalize ((w5.setCell ⟨b,33,none⟩ (.int .u64 ta)).setCell ⟨b,34,none⟩ (.int .i64 tn)) = Y at *
      refine bodyPost_ret (results_cell_row rfl _ _ (w.heap.size + 1) 33 _ (0,0) _ rfl (set3 (.int .i64 0) (.int .i64 0) (.int .u64 0) G6) Tryz.underlying33 rfl (by kernel_rfl)) rfl ?_
      have k7:Fr (only (w.heap.size + 1)) Y (((Y.setCell ⟨w.heap.size + 1,0,none⟩ (.int .i64 0)).setCell ⟨w.heap.size + 1,1,none⟩ (.int .i64 0)).setCell ⟨w.heap.size + 1,2,none⟩ (.int .u64 0)):=((Fr.set (S:=only (w.heap.size + 1)) (p:=⟨w.heap.size + 1,0,none⟩) rfl _).trans (Fr.set (S:=only (w.heap.size + 1)) (p:=⟨w.heap.size + 1,1,none⟩) rfl _)).trans (Fr.set (S:=only (w.heap.size + 1)) (p:=⟨w.heap.size + 1,2,none⟩) rfl _)
      obtain ⟨st',hg6,hm6⟩:=AZ.out.ms
      have hm7:=((hm6.kept K5.out (fun x e e2=>HTB.out (by rw [← show x = b from e2];exact e.1))).kept k6 (fun x e e2=>HTB.out (by rw [← show x = b from e2];exact e.1))).kept k7 (fun x e e2=>e.2 (by have e3:x = w.heap.size + 1:=e2;have:=AZ.out.hi_;omega))
      refine ⟨⟨y,ta,tn,0,fk,fa⟩,M',HIS.out,by rw [if_pos rfl];rfl,⟨st',hg6,hm7.ungap⟩,fun _=>h6.fr k7 (fun e=>by have e3:b = w.heap.size + 1:=e;omega),?_⟩
      have f9:Fr (fun x=>T x ∨ x = b) w Y:=((AZ.out.fr.mono fun x _ e=>.inl e).trans (K5.out.mono fun x _ e=>.inr e)).trans (k6.mono fun x _ e=>.inr e)
      exact ((f9.newCellC (p:=⟨w.heap.size + 1,0,none⟩) (by simp) _).newCellC (p:=⟨w.heap.size + 1,1,none⟩) (by simp) _).newCellC (p:=⟨w.heap.size + 1,2,none⟩) (by simp) _
    · have hk':=nin hk
      go_wp2_with fail
      (try simp only [Exit.inBlock,Exit.then])
      refine bodyPost_ret (results_cell_row rfl _ _ (w.heap.size + 1) 33 _ (0,0) _ rfl (set3 (.int .i64 k) (.int .i64 fk) (.int .u64 fa) AZ.out.res) Tryz.underlying33 rfl (by kernel_rfl)) rfl ?_
      have k7:Fr (only (w.heap.size + 1)) Z (((Z.setCell ⟨w.heap.size + 1,0,none⟩ (.int .i64 k)).setCell ⟨w.heap.size + 1,1,none⟩ (.int .i64 fk)).setCell ⟨w.heap.size + 1,2,none⟩ (.int .u64 fa)):=((Fr.set (S:=only (w.heap.size + 1)) (p:=⟨w.heap.size + 1,0,none⟩) rfl _).trans (Fr.set (S:=only (w.heap.size + 1)) (p:=⟨w.heap.size + 1,1,none⟩) rfl _)).trans (Fr.set (S:=only (w.heap.size + 1)) (p:=⟨w.heap.size + 1,2,none⟩) rfl _)
      obtain ⟨st',hg6,hm6⟩:=AZ.out.ms
      have hm7:=hm6.kept k7 (fun x e e2=>e.2 (by have e3:x = w.heap.size + 1:=e2;have:=AZ.out.hi_;omega))
      refine ⟨⟨y,ta,tn,k,fk,fa⟩,M',HIS.out,by rw [if_neg hk];rfl,⟨st',hg6,hm7.ungap⟩,fun e=>absurd e hk,?_⟩
      exact (((AZ.out.fr.mono (fun x _ e=>.inl e)).newCellC (p:=⟨w.heap.size + 1,0,none⟩) (by simp) _).newCellC (p:=⟨w.heap.size + 1,1,none⟩) (by simp) _).newCellC (p:=⟨w.heap.size + 1,2,none⟩) (by simp) _
  · have HB_:=hid HLT.out
    have az:AtZ T w _ _ b sb (n + 9) pc xs ha hn L M st M' mo ba en ((((((w4.setCell ⟨W.heap.size,0,none⟩ (.int .u64 ta)).setCell ⟨W.heap.size,1,none⟩ (.int .i64 tn)).setCell ⟨W.heap.size + 1,0,none⟩ (.int .i64 k)).setCell ⟨W.heap.size + 1,1,none⟩ (.int .i64 fk)).setCell ⟨W.heap.size + 1,2,none⟩ (.int .u64 fa))):=(((((HZ.out.set (by have h1:=lt_at B1.out;have h2:=lt_at HZ.out.res;omega) (by have h1:=lt_at B1.out;first | omega | (simp only [World.alloc,World.drew,Array.size_push];omega)) hlt _ _).set (by have h1:=lt_at B1.out;have h2:=lt_at HZ.out.res;omega) (by have h1:=lt_at B1.out;first | omega | (simp only [World.alloc,World.drew,Array.size_push];omega)) hlt _ _).set (by have h1:=lt_at B1.out;have h2:=lt_at HZ.out.res;omega) (by have h1:=lt_at B1.out;first | omega | (simp only [World.alloc,World.drew,Array.size_push];omega)) hlt _ _).set (by have h1:=lt_at B1.out;have h2:=lt_at HZ.out.res;omega) (by have h1:=lt_at B1.out;first | omega | (simp only [World.alloc,World.drew,Array.size_push];omega)) hlt _ _).set (by have h1:=lt_at B1.out;have h2:=lt_at HZ.out.res;omega) (by have h1:=lt_at B1.out;first | omega | (simp only [World.alloc,World.drew,Array.size_push];omega)) hlt _ _)
    have F1:Hid (((((((w4.setCell ⟨W.heap.size,0,none⟩ (.int .u64 ta)).setCell ⟨W.heap.size,1,none⟩ (.int .i64 tn)).setCell ⟨W.heap.size + 1,0,none⟩ (.int .i64 k)).setCell ⟨W.heap.size + 1,1,none⟩ (.int .i64 fk)).setCell ⟨W.heap.size + 1,2,none⟩ (.int .u64 fa))).heap[W.heap.size]? = some (.cells #[.int .u64 ta,.int .i64 tn] 45 (0,0))):=hid ((oth (oth (oth (set2 _ _ FA.out) (p:=⟨W.heap.size + 1,0,none⟩) (by show W.heap.size + 1 ≠ _;omega) _) (p:=⟨W.heap.size + 1,1,none⟩) (by show W.heap.size + 1 ≠ _;omega) _) (p:=⟨W.heap.size + 1,2,none⟩) (by show W.heap.size + 1 ≠ _;omega) _))
    have F2:Hid (((((((w4.setCell ⟨W.heap.size,0,none⟩ (.int .u64 ta)).setCell ⟨W.heap.size,1,none⟩ (.int .i64 tn)).setCell ⟨W.heap.size + 1,0,none⟩ (.int .i64 k)).setCell ⟨W.heap.size + 1,1,none⟩ (.int .i64 fk)).setCell ⟨W.heap.size + 1,2,none⟩ (.int .u64 fa))).heap[W.heap.size + 1]? = some (.cells #[.int .i64 k,.int .i64 fk,.int .u64 fa] 33 (0,0))):=hid (set3 _ _ _ (oth (oth FB.out (p:=⟨W.heap.size,0,none⟩) (by show W.heap.size ≠ _;omega) _) (p:=⟨W.heap.size,1,none⟩) (by show W.heap.size ≠ _;omega) _))
    have n1:w.heap.size + 1 < W.heap.size:=(by have h1:=lt_at B1.out;have h2:=lt_at HZ.out.res;omega)
    have n2:w.heap.size + 1 < W.heap.size + 1:=(by have h1:=lt_at B1.out;have h2:=lt_at HZ.out.res;omega)
    generalize (((((w4.setCell ⟨W.heap.size,0,none⟩ (.int .u64 ta)).setCell ⟨W.heap.size,1,none⟩ (.int .i64 tn)).setCell ⟨W.heap.size + 1,0,none⟩ (.int .i64 k)).setCell ⟨W.heap.size + 1,1,none⟩ (.int .i64 fk)).setCell ⟨W.heap.size + 1,2,none⟩ (.int .u64 fa)) = Z at *
    generalize hf1:W.heap.size = f1 at *
    generalize hf2:W.heap.size + 1 = f2 at *
    clear hkk HZ CS HS hms hfr HW
    have AZ:=hid az;clear az
    have HIS:=hid hs;clear hs
    obtain ⟨c0,c1,c2⟩:=three_at F2.out
    have z1:=free_at AZ.out.res
    obtain ⟨e0,e1,e2⟩:=three_at AZ.out.res
    (try simp only [Exit.inBlock,Exit.then])
    by_cases hk:k = 0
    · subst hk
      have hst:=AZ.out.stt
      obtain ⟨_,g1,_⟩:=seven_at AZ.out.box
      go_wp2_with fail
      with_reducible refine (CP.out _ _ _ _ hst).mono ?_
      rintro e w5 ⟨rfl,h5,k5,z5⟩
      have G1:=hid (k5.at_ F1.out (fun e=>by have e3:f1 = b:=e;omega))
      have G2:=hid (k5.at_ AZ.out.res (fun e=>by have e3:w.heap.size + 1 = b:=e;omega))
      have H5:=hid h5;clear h5
      have K5:=hid k5;clear k5
      clear c0 c1 c2 e0 e1 e2 g1 z1 hst
      obtain ⟨c0,c1,c2,c3⟩:=row2 G1.out
      obtain ⟨e0,e1,e2⟩:=three_at G2.out
      have z1:=free_at G2.out
      obtain ⟨g0,g1⟩:=H5.out.hold
      have z2:=H5.out.free
      go_wp2_with fail
      (try simp only [Exit.inBlock,Exit.then])
      have h6:=H5.out.setHold ta tn
      have k6:Fr (only b) w5 ((w5.setCell ⟨b,33,none⟩ (.int .u64 ta)).setCell ⟨b,34,none⟩ (.int .i64 tn)):=(Fr.set (S:=only b) (p:=⟨b,33,none⟩) rfl _).trans (Fr.set (S:=only b) (p:=⟨b,34,none⟩) rfl _)
      have G6:=k6.at_ G2.out (fun e=>by have e3:w.heap.size + 1 = b:=e;omega)
      generalize ((w5.setCell ⟨b,33,none⟩ (.int .u64 ta)).setCell ⟨b,34,none⟩ (.int .i64 tn)) = Y at *
      refine bodyPost_ret (results_cell_row rfl _ _ (w.heap.size + 1) 33 _ (0,0) _ rfl (set3 (.int .i64 0) (.int .i64 0) (.int .u64 0) G6) Tryz.underlying33 rfl (by kernel_rfl)) rfl ?_
      have k7:Fr (only (w.heap.size + 1)) Y (((Y.setCell ⟨w.heap.size + 1,0,none⟩ (.int .i64 0)).setCell ⟨w.heap.size + 1,1,none⟩ (.int .i64 0)).setCell ⟨w.heap.size + 1,2,none⟩ (.int .u64 0)):=((Fr.set (S:=only (w.heap.size + 1)) (p:=⟨w.heap.size + 1,0,none⟩) rfl _).trans (Fr.set (S:=only (w.heap.size + 1)) (p:=⟨w.heap.size + 1,1,none⟩) rfl _)).trans (Fr.set (S:=only (w.heap.size + 1)) (p:=⟨w.heap.size + 1,2,none⟩) rfl _)
      obtain ⟨st',hg6,hm6⟩:=AZ.out.ms
      have hm7:=((hm6.kept K5.out (fun x e e2=>HTB.out (by rw [← show x = b from e2];exact e.1))).kept k6 (fun x e e2=>HTB.out (by rw [← show x = b from e2];exact e.1))).kept k7 (fun x e e2=>e.2 (by have e3:x = w.heap.size + 1:=e2;have:=AZ.out.hi_;omega))
      refine ⟨⟨y,ta,tn,0,fk,fa⟩,M',HIS.out,by rw [if_pos rfl];rfl,⟨st',hg6,hm7.ungap⟩,fun _=>h6.fr k7 (fun e=>by have e3:b = w.heap.size + 1:=e;omega),?_⟩
      have f9:Fr (fun x=>T x ∨ x = b) w Y:=((AZ.out.fr.mono fun x _ e=>.inl e).trans (K5.out.mono fun x _ e=>.inr e)).trans (k6.mono fun x _ e=>.inr e)
      exact ((f9.newCellC (p:=⟨w.heap.size + 1,0,none⟩) (by simp) _).newCellC (p:=⟨w.heap.size + 1,1,none⟩) (by simp) _).newCellC (p:=⟨w.heap.size + 1,2,none⟩) (by simp) _
    · have hk':=nin hk
      go_wp2_with fail
      (try simp only [Exit.inBlock,Exit.then])
      refine bodyPost_ret (results_cell_row rfl _ _ (w.heap.size + 1) 33 _ (0,0) _ rfl (set3 (.int .i64 k) (.int .i64 fk) (.int .u64 fa) AZ.out.res) Tryz.underlying33 rfl (by kernel_rfl)) rfl ?_
      have k7:Fr (only (w.heap.size + 1)) Z (((Z.setCell ⟨w.heap.size + 1,0,none⟩ (.int .i64 k)).setCell ⟨w.heap.size + 1,1,none⟩ (.int .i64 fk)).setCell ⟨w.heap.size + 1,2,none⟩ (.int .u64 fa)):=((Fr.set (S:=only (w.heap.size + 1)) (p:=⟨w.heap.size + 1,0,none⟩) rfl _).trans (Fr.set (S:=only (w.heap.size + 1)) (p:=⟨w.heap.size + 1,1,none⟩) rfl _)).trans (Fr.set (S:=only (w.heap.size + 1)) (p:=⟨w.heap.size + 1,2,none⟩) rfl _)
      obtain ⟨st',hg6,hm6⟩:=AZ.out.ms
      have hm7:=hm6.kept k7 (fun x e e2=>e.2 (by have e3:x = w.heap.size + 1:=e2;have:=AZ.out.hi_;omega))
      refine ⟨⟨y,ta,tn,k,fk,fa⟩,M',HIS.out,by rw [if_neg hk];rfl,⟨st',hg6,hm7.ungap⟩,fun e=>absurd e hk,?_⟩
      exact (((AZ.out.fr.mono (fun x _ e=>.inl e)).newCellC (p:=⟨w.heap.size + 1,0,none⟩) (by simp) _).newCellC (p:=⟨w.heap.size + 1,1,none⟩) (by simp) _).newCellC (p:=⟨w.heap.size + 1,2,none⟩) (by simp) _
  · have HB_:=hid HLT.out
    have az:AtZ T w _ _ b sb (n + 9) pc xs ha hn L M st M' mo ba en ((((w4.setCell ⟨W.heap.size,0,none⟩ (.int .i64 k)).setCell ⟨W.heap.size,1,none⟩ (.int .i64 fk)).setCell ⟨W.heap.size,2,none⟩ (.int .u64 fa)).alloc (.cells #[.int .u64 ta,.int .i64 tn] 45)):=AtZ.alloc (((HZ.out.set (by have h1:=lt_at B1.out;have h2:=lt_at HZ.out.res;omega) (by have h1:=lt_at B1.out;first | omega | (simp only [World.alloc,World.drew,Array.size_push];omega)) hlt _ _).set (by have h1:=lt_at B1.out;have h2:=lt_at HZ.out.res;omega) (by have h1:=lt_at B1.out;first | omega | (simp only [World.alloc,World.drew,Array.size_push];omega)) hlt _ _).set (by have h1:=lt_at B1.out;have h2:=lt_at HZ.out.res;omega) (by have h1:=lt_at B1.out;first | omega | (simp only [World.alloc,World.drew,Array.size_push];omega)) hlt _ _) _
    have F1:Hid (((((w4.setCell ⟨W.heap.size,0,none⟩ (.int .i64 k)).setCell ⟨W.heap.size,1,none⟩ (.int .i64 fk)).setCell ⟨W.heap.size,2,none⟩ (.int .u64 fa)).alloc (.cells #[.int .u64 ta,.int .i64 tn] 45)).heap[w4.heap.size]? = some (.cells #[.int .u64 ta,.int .i64 tn] 45 (0,0))):=hid (alloc_at3 _ _ _ _ _ _ _ _ _)
    have F2:Hid (((((w4.setCell ⟨W.heap.size,0,none⟩ (.int .i64 k)).setCell ⟨W.heap.size,1,none⟩ (.int .i64 fk)).setCell ⟨W.heap.size,2,none⟩ (.int .u64 fa)).alloc (.cells #[.int .u64 ta,.int .i64 tn] 45)).heap[W.heap.size]? = some (.cells #[.int .i64 k,.int .i64 fk,.int .u64 fa] 33 (0,0))):=hid ((Bl.new _ _).at_ (set3 _ _ _ FB.out))
    have n1:w.heap.size + 1 < w4.heap.size:=(by have h1:=lt_at B1.out;have h2:=lt_at HZ.out.res;omega)
    have n2:w.heap.size + 1 < W.heap.size:=(by have h1:=lt_at B1.out;have h2:=lt_at HZ.out.res;omega)
    generalize (((w4.setCell ⟨W.heap.size,0,none⟩ (.int .i64 k)).setCell ⟨W.heap.size,1,none⟩ (.int .i64 fk)).setCell ⟨W.heap.size,2,none⟩ (.int .u64 fa)).alloc (.cells #[.int .u64 ta,.int .i64 tn] 45) = Z at *
    generalize hf1:w4.heap.size = f1 at *
    generalize hf2:W.heap.size = f2 at *
    clear hkk HZ CS HS hms hfr HW
    have AZ:=hid az;clear az
    have HIS:=hid hs;clear hs
    obtain ⟨c0,c1,c2⟩:=three_at F2.out
    have z1:=free_at AZ.out.res
    obtain ⟨e0,e1,e2⟩:=three_at AZ.out.res
    (try simp only [Exit.inBlock,Exit.then])
    by_cases hk:k = 0
    · subst hk
      have hst:=AZ.out.stt
      obtain ⟨_,g1,_⟩:=seven_at AZ.out.box
      go_wp2_with fail
      with_reducible refine (CP.out _ _ _ _ hst).mono ?_
      rintro e w5 ⟨rfl,h5,k5,z5⟩
      have G1:=hid (k5.at_ F1.out (fun e=>by have e3:f1 = b:=e;omega))
      have G2:=hid (k5.at_ AZ.out.res (fun e=>by have e3:w.heap.size + 1 = b:=e;omega))
      have H5:=hid h5;clear h5
      have K5:=hid k5;clear k5
      clear c0 c1 c2 e0 e1 e2 g1 z1 hst
      obtain ⟨c0,c1,c2,c3⟩:=row2 G1.out
      obtain ⟨e0,e1,e2⟩:=three_at G2.out
      have z1:=free_at G2.out
      obtain ⟨g0,g1⟩:=H5.out.hold
      have z2:=H5.out.free
      go_wp2_with fail
      (try simp only [Exit.inBlock,Exit.then])
      have h6:=H5.out.setHold ta tn
      have k6:Fr (only b) w5 ((w5.setCell ⟨b,33,none⟩ (.int .u64 ta)).setCell ⟨b,34,none⟩ (.int .i64 tn)):=(Fr.set (S:=only b) (p:=⟨b,33,none⟩) rfl _).trans (Fr.set (S:=only b) (p:=⟨b,34,none⟩) rfl _)
      have G6:=k6.at_ G2.out (fun e=>by have e3:w.heap.size + 1 = b:=e;omega)
      generalize ((w5.setCell ⟨b,33,none⟩ (.int .u64 ta)).setCell ⟨b,34,none⟩ (.int .i64 tn)) = Y at *
      refine bodyPost_ret (results_cell_row rfl _ _ (w.heap.size + 1) 33 _ (0,0) _ rfl (set3 (.int .i64 0) (.int .i64 0) (.int .u64 0) G6) Tryz.underlying33 rfl (by kernel_rfl)) rfl ?_
      have k7:Fr (only (w.heap.size + 1)) Y (((Y.setCell ⟨w.heap.size + 1,0,none⟩ (.int .i64 0)).setCell ⟨w.heap.size + 1,1,none⟩ (.int .i64 0)).setCell ⟨w.heap.size + 1,2,none⟩ (.int .u64 0)):=((Fr.set (S:=only (w.heap.size + 1)) (p:=⟨w.heap.size + 1,0,none⟩) rfl _).trans (Fr.set (S:=only (w.heap.size + 1)) (p:=⟨w.heap.size + 1,1,none⟩) rfl _)).trans (Fr.set (S:=only (w.heap.size + 1)) (p:=⟨w.heap.size + 1,2,none⟩) rfl _)
      obtain ⟨st',hg6,hm6⟩:=AZ.out.ms
      have hm7:=((hm6.kept K5.out (fun x e e2=>HTB.out (by rw [← show x = b from e2];exact e.1))).kept k6 (fun x e e2=>HTB.out (by rw [← show x = b from e2];exact e.1))).kept k7 (fun x e e2=>e.2 (by have e3:x = w.heap.size + 1:=e2;have:=AZ.out.hi_;omega))
      refine ⟨⟨y,ta,tn,0,fk,fa⟩,M',HIS.out,by rw [if_pos rfl];rfl,⟨st',hg6,hm7.ungap⟩,fun _=>h6.fr k7 (fun e=>by have e3:b = w.heap.size + 1:=e;omega),?_⟩
      have f9:Fr (fun x=>T x ∨ x = b) w Y:=((AZ.out.fr.mono fun x _ e=>.inl e).trans (K5.out.mono fun x _ e=>.inr e)).trans (k6.mono fun x _ e=>.inr e)
      exact ((f9.newCellC (p:=⟨w.heap.size + 1,0,none⟩) (by simp) _).newCellC (p:=⟨w.heap.size + 1,1,none⟩) (by simp) _).newCellC (p:=⟨w.heap.size + 1,2,none⟩) (by simp) _
    · have hk':=nin hk
      go_wp2_with fail
      (try simp only [Exit.inBlock,Exit.then])
      refine bodyPost_ret (results_cell_row rfl _ _ (w.heap.size + 1) 33 _ (0,0) _ rfl (set3 (.int .i64 k) (.int .i64 fk) (.int .u64 fa) AZ.out.res) Tryz.underlying33 rfl (by kernel_rfl)) rfl ?_
      have k7:Fr (only (w.heap.size + 1)) Z (((Z.setCell ⟨w.heap.size + 1,0,none⟩ (.int .i64 k)).setCell ⟨w.heap.size + 1,1,none⟩ (.int .i64 fk)).setCell ⟨w.heap.size + 1,2,none⟩ (.int .u64 fa)):=((Fr.set (S:=only (w.heap.size + 1)) (p:=⟨w.heap.size + 1,0,none⟩) rfl _).trans (Fr.set (S:=only (w.heap.size + 1)) (p:=⟨w.heap.size + 1,1,none⟩) rfl _)).trans (Fr.set (S:=only (w.heap.size + 1)) (p:=⟨w.heap.size + 1,2,none⟩) rfl _)
      obtain ⟨st',hg6,hm6⟩:=AZ.out.ms
      have hm7:=hm6.kept k7 (fun x e e2=>e.2 (by have e3:x = w.heap.size + 1:=e2;have:=AZ.out.hi_;omega))
      refine ⟨⟨y,ta,tn,k,fk,fa⟩,M',HIS.out,by rw [if_neg hk];rfl,⟨st',hg6,hm7.ungap⟩,fun e=>absurd e hk,?_⟩
      exact (((AZ.out.fr.mono (fun x _ e=>.inl e)).newCellC (p:=⟨w.heap.size + 1,0,none⟩) (by simp) _).newCellC (p:=⟨w.heap.size + 1,1,none⟩) (by simp) _).newCellC (p:=⟨w.heap.size + 1,2,none⟩) (by simp) _
  · have HB_:=hid HLT.out
    have az:AtZ T w _ _ b sb (n + 9) pc xs ha hn L M st M' mo ba en ((((((w4.setCell ⟨W.heap.size + 1,0,none⟩ (.int .u64 ta)).setCell ⟨W.heap.size + 1,1,none⟩ (.int .i64 tn)).setCell ⟨W.heap.size,0,none⟩ (.int .i64 k)).setCell ⟨W.heap.size,1,none⟩ (.int .i64 fk)).setCell ⟨W.heap.size,2,none⟩ (.int .u64 fa))):=(((((HZ.out.set (by have h1:=lt_at B1.out;have h2:=lt_at HZ.out.res;omega) (by have h1:=lt_at B1.out;first | omega | (simp only [World.alloc,World.drew,Array.size_push];omega)) hlt _ _).set (by have h1:=lt_at B1.out;have h2:=lt_at HZ.out.res;omega) (by have h1:=lt_at B1.out;first | omega | (simp only [World.alloc,World.drew,Array.size_push];omega)) hlt _ _).set (by have h1:=lt_at B1.out;have h2:=lt_at HZ.out.res;omega) (by have h1:=lt_at B1.out;first | omega | (simp only [World.alloc,World.drew,Array.size_push];omega)) hlt _ _).set (by have h1:=lt_at B1.out;have h2:=lt_at HZ.out.res;omega) (by have h1:=lt_at B1.out;first | omega | (simp only [World.alloc,World.drew,Array.size_push];omega)) hlt _ _).set (by have h1:=lt_at B1.out;have h2:=lt_at HZ.out.res;omega) (by have h1:=lt_at B1.out;first | omega | (simp only [World.alloc,World.drew,Array.size_push];omega)) hlt _ _)
    have F1:Hid (((((((w4.setCell ⟨W.heap.size + 1,0,none⟩ (.int .u64 ta)).setCell ⟨W.heap.size + 1,1,none⟩ (.int .i64 tn)).setCell ⟨W.heap.size,0,none⟩ (.int .i64 k)).setCell ⟨W.heap.size,1,none⟩ (.int .i64 fk)).setCell ⟨W.heap.size,2,none⟩ (.int .u64 fa))).heap[W.heap.size + 1]? = some (.cells #[.int .u64 ta,.int .i64 tn] 45 (0,0))):=hid ((oth (oth (oth (set2 _ _ FA.out) (p:=⟨W.heap.size,0,none⟩) (by show W.heap.size ≠ _;omega) _) (p:=⟨W.heap.size,1,none⟩) (by show W.heap.size ≠ _;omega) _) (p:=⟨W.heap.size,2,none⟩) (by show W.heap.size ≠ _;omega) _))
    have F2:Hid (((((((w4.setCell ⟨W.heap.size + 1,0,none⟩ (.int .u64 ta)).setCell ⟨W.heap.size + 1,1,none⟩ (.int .i64 tn)).setCell ⟨W.heap.size,0,none⟩ (.int .i64 k)).setCell ⟨W.heap.size,1,none⟩ (.int .i64 fk)).setCell ⟨W.heap.size,2,none⟩ (.int .u64 fa))).heap[W.heap.size]? = some (.cells #[.int .i64 k,.int .i64 fk,.int .u64 fa] 33 (0,0))):=hid (set3 _ _ _ (oth (oth FB.out (p:=⟨W.heap.size + 1,0,none⟩) (by show W.heap.size + 1 ≠ _;omega) _) (p:=⟨W.heap.size + 1,1,none⟩) (by show W.heap.size + 1 ≠ _;omega) _))
    have n1:w.heap.size + 1 < W.heap.size + 1:=(by have h1:=lt_at B1.out;have h2:=lt_at HZ.out.res;omega)
    have n2:w.heap.size + 1 < W.heap.size:=(by have h1:=lt_at B1.out;have h2:=lt_at HZ.out.res;omega)
    generalize (((((w4.setCell ⟨W.heap.size + 1,0,none⟩ (.int .u64 ta)).setCell ⟨W.heap.size + 1,1,none⟩ (.int .i64 tn)).setCell ⟨W.heap.size,0,none⟩ (.int .i64 k)).setCell ⟨W.heap.size,1,none⟩ (.int .i64 fk)).setCell ⟨W.heap.size,2,none⟩ (.int .u64 fa)) = Z at *
    generalize hf1:W.heap.size + 1 = f1 at *
    generalize hf2:W.heap.size = f2 at *
    clear hkk HZ CS HS hms hfr HW
    have AZ:=hid az;clear az
    have HIS:=hid hs;clear hs
    obtain ⟨c0,c1,c2⟩:=three_at F2.out
    have z1:=free_at AZ.out.res
    obtain ⟨e0,e1,e2⟩:=three_at AZ.out.res
    (try simp only [Exit.inBlock,Exit.then])
    by_cases hk:k = 0
    · subst hk
      have hst:=AZ.out.stt
      obtain ⟨_,g1,_⟩:=seven_at AZ.out.box
      go_wp2_with fail
      with_reducible refine (CP.out _ _ _ _ hst).mono ?_
      rintro e w5 ⟨rfl,h5,k5,z5⟩
      have G1:=hid (k5.at_ F1.out (fun e=>by have e3:f1 = b:=e;omega))
      have G2:=hid (k5.at_ AZ.out.res (fun e=>by have e3:w.heap.size + 1 = b:=e;omega))
      have H5:=hid h5;clear h5
      have K5:=hid k5;clear k5
      clear c0 c1 c2 e0 e1 e2 g1 z1 hst
      obtain ⟨c0,c1,c2,c3⟩:=row2 G1.out
      obtain ⟨e0,e1,e2⟩:=three_at G2.out
      have z1:=free_at G2.out
      obtain ⟨g0,g1⟩:=H5.out.hold
      have z2:=H5.out.free
      go_wp2_with fail
      (try simp only [Exit.inBlock,Exit.then])
      have h6:=H5.out.setHold ta tn
      have k6:Fr (only b) w5 ((w5.setCell ⟨b,33,none⟩ (.int .u64 ta)).setCell ⟨b,34,none⟩ (.int .i64 tn)):=(Fr.set (S:=only b) (p:=⟨b,33,none⟩) rfl _).trans (Fr.set (S:=only b) (p:=⟨b,34,none⟩) rfl _)
      have G6:=k6.at_ G2.out (fun e=>by have e3:w.heap.size + 1 = b:=e;omega)
      generalize ((w5.setCell ⟨b,33,none⟩ (.int .u64 ta)).setCell ⟨b,34,none⟩ (.int .i64 tn)) = Y at *
      refine bodyPost_ret (results_cell_row rfl _ _ (w.heap.size + 1) 33 _ (0,0) _ rfl (set3 (.int .i64 0) (.int .i64 0) (.int .u64 0) G6) Tryz.underlying33 rfl (by kernel_rfl)) rfl ?_
      have k7:Fr (only (w.heap.size + 1)) Y (((Y.setCell ⟨w.heap.size + 1,0,none⟩ (.int .i64 0)).setCell ⟨w.heap.size + 1,1,none⟩ (.int .i64 0)).setCell ⟨w.heap.size + 1,2,none⟩ (.int .u64 0)):=((Fr.set (S:=only (w.heap.size + 1)) (p:=⟨w.heap.size + 1,0,none⟩) rfl _).trans (Fr.set (S:=only (w.heap.size + 1)) (p:=⟨w.heap.size + 1,1,none⟩) rfl _)).trans (Fr.set (S:=only (w.heap.size + 1)) (p:=⟨w.heap.size + 1,2,none⟩) rfl _)
      obtain ⟨st',hg6,hm6⟩:=AZ.out.ms
      have hm7:=((hm6.kept K5.out (fun x e e2=>HTB.out (by rw [← show x = b from e2];exact e.1))).kept k6 (fun x e e2=>HTB.out (by rw [← show x = b from e2];exact e.1))).kept k7 (fun x e e2=>e.2 (by have e3:x = w.heap.size + 1:=e2;have:=AZ.out.hi_;omega))
      refine ⟨⟨y,ta,tn,0,fk,fa⟩,M',HIS.out,by rw [if_pos rfl];rfl,⟨st',hg6,hm7.ungap⟩,fun _=>h6.fr k7 (fun e=>by have e3:b = w.heap.size + 1:=e;omega),?_⟩
      have f9:Fr (fun x=>T x ∨ x = b) w Y:=((AZ.out.fr.mono fun x _ e=>.inl e).trans (K5.out.mono fun x _ e=>.inr e)).trans (k6.mono fun x _ e=>.inr e)
      exact ((f9.newCellC (p:=⟨w.heap.size + 1,0,none⟩) (by simp) _).newCellC (p:=⟨w.heap.size + 1,1,none⟩) (by simp) _).newCellC (p:=⟨w.heap.size + 1,2,none⟩) (by simp) _
    · have hk':=nin hk
      go_wp2_with fail
      (try simp only [Exit.inBlock,Exit.then])
      refine bodyPost_ret (results_cell_row rfl _ _ (w.heap.size + 1) 33 _ (0,0) _ rfl (set3 (.int .i64 k) (.int .i64 fk) (.int .u64 fa) AZ.out.res) Tryz.underlying33 rfl (by kernel_rfl)) rfl ?_
      have k7:Fr (only (w.heap.size + 1)) Z (((Z.setCell ⟨w.heap.size + 1,0,none⟩ (.int .i64 k)).setCell ⟨w.heap.size + 1,1,none⟩ (.int .i64 fk)).setCell ⟨w.heap.size + 1,2,none⟩ (.int .u64 fa)):=((Fr.set (S:=only (w.heap.size + 1)) (p:=⟨w.heap.size + 1,0,none⟩) rfl _).trans (Fr.set (S:=only (w.heap.size + 1)) (p:=⟨w.heap.size + 1,1,none⟩) rfl _)).trans (Fr.set (S:=only (w.heap.size + 1)) (p:=⟨w.heap.size + 1,2,none⟩) rfl _)
      obtain ⟨st',hg6,hm6⟩:=AZ.out.ms
      have hm7:=hm6.kept k7 (fun x e e2=>e.2 (by have e3:x = w.heap.size + 1:=e2;have:=AZ.out.hi_;omega))
      refine ⟨⟨y,ta,tn,k,fk,fa⟩,M',HIS.out,by rw [if_neg hk];rfl,⟨st',hg6,hm7.ungap⟩,fun e=>absurd e hk,?_⟩
      exact (((AZ.out.fr.mono (fun x _ e=>.inl e)).newCellC (p:=⟨w.heap.size + 1,0,none⟩) (by simp) _).newCellC (p:=⟨w.heap.size + 1,1,none⟩) (by simp) _).newCellC (p:=⟨w.heap.size + 1,2,none⟩) (by simp) _
end
end Go.Proofs.YtlhpodholnfppaaGreatDoor
