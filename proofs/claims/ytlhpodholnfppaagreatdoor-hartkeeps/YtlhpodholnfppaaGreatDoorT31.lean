/-
  The program's machine: one Step.
  Up, whole, Unmap, Protect of a space.
  A space of the reference: Lays whatever is mapped; Fetch.
  Acts that came in: where their cells stand, and what their bytes read as.
  How the law's spaces are laid: three regions, and the program's bytes.
-/
import Derived.Test.YtlhpodholnfppaaGreatDoorT30
import Derived.Test.YtlhpodholnfppaaGreatDoorT12
import Derived.Deep.Cut
import Derived.IntWalk
import Derived.Test.YtlhpodholnfppaaGreatDoorT29
import Derived.Test.YtlhpodholnfppaaGreatDoorT5
import Derived.Deep.Slices
import Derived.ChangeSame
import Derived.Lib.Hide
set_option linter.unusedVariables false
set_option linter.unusedSimpArgs false
set_option maxHeartbeats 16000000
open Go.Lib (hid)
namespace Go.Proofs.YtlhpodholnfppaaGreatDoor
open Go.RowKit
set_option maxRecDepth 100000
structure Mach (T:Nat → Prop) (w:World) (hb sb cb B n:Nat) (on:Bool) (s:St) (L:List Rg) (M st:Nat → Int) (mo ba en:Int):Prop where
  ht:HtAt w hb s.pc s.xs s.ha s.hn sb cb
  regs:Regs s.xs
  pcb:0 ≤ s.pc∧s.pc < 18446744073709551616
  base:Base T w hb sb cb B n on L M st mo ba en
section
variable {T:Nat → Prop} {w:World} {hb sb cb B n:Nat} {on:Bool} {s:St} {L:List Rg} {M st:Nat → Int} {mo ba en:Int}
def HartPost (T:Nat → Prop) (w:World) (hb sb cb B n:Nat) (on:Bool) (s:St) (L:List Rg) (M st:Nat → Int) (mo ba en:Int) (e:Ending) (w':World):Prop:=
  ∃ k fk fa s' M' st',MacIs L M s k fk fa s' M'∧e = .returned (stopV k fk fa)∧Mach T w' hb sb cb B (n + 9) on s' L M' st' mo ba en∧Fr (fun x=>T x ∨ x = hb ∨ x = B) w w'
structure HoV (T:Nat → Prop) (w:World) (hb sb cb B n:Nat) (on:Bool) (s:St) (L:List Rg) (M st:Nat → Int) (mo ba en:Int) (V:World):Prop where
  res:V.heap[w.heap.size]? = some (.cells #[.int .i64 0,.int .i64 0,.int .u64 0] 33 (0,0))
  nxt:StAt V (w.heap.size + 1) s.pc s.xs s.ha s.hn
  ht:HtAt V hb s.pc s.xs s.ha s.hn sb cb
  base:Base (gap T w.heap.size V.heap.size) V (w.heap.size + 1) sb cb B n on L M st mo ba en
  bl:Bl w V
theorem hov_of (h:Mach T w hb sb cb B n on s L M st mo ba en):HoV T w hb sb cb B n on s L M st mo ba en ((w.alloc (.cells #[.int .i64 0,.int .i64 0,.int .u64 0] 33)).alloc (.cells (stV s.pc s.xs s.ha s.hn).toArray 47)):=by
  have k0:Bl w ((w.alloc (.cells #[.int .i64 0,.int .i64 0,.int .u64 0] 33)).alloc (.cells (stV s.pc s.xs s.ha s.hn).toArray 47)):=(Bl.new _ _).alloc _
  obtain ⟨b0,b1⟩:=two_newD w (.cells #[.int .i64 0,.int .i64 0,.int .u64 0] 33) (.cells (stV s.pc s.xs s.ha s.hn).toArray 47)
  have hl1:=lt_at b1
  have h0:=h.base
  have hlt:=h.ht.lt
  have h21:=h0.Bl_
  have hcl:=h0.cl
  have hB21:=h0.B21
  have hs:((w.alloc (.cells #[.int .i64 0,.int .i64 0,.int .u64 0] 33)).alloc (.cells (stV s.pc s.xs s.ha s.hn).toArray 47)).heap.size = w.heap.size + 2:=by simp
  generalize (w.alloc (.cells #[.int .i64 0,.int .i64 0,.int .u64 0] 33)).alloc (.cells (stV s.pc s.xs s.ha s.hn).toArray 47) = V at *
  refine ⟨b0,⟨b1,h.regs.len⟩,h.ht.bl k0,⟨h0.ms.gap k0 w.heap.size V.heap.size (Nat.le_refl _),h0.cch.bl k0,h0.tabs.bl k0,h0.al,gap_no hl1 (Nat.le_succ _),gap_not h0.nc,gap_not h0.nB,by omega,by omega,by omega,by omega,h0.B21,by omega,fun g hg=>gap_not (h0.t21 g hg)⟩,k0⟩
structure HoZ (T:Nat → Prop) (w:World) (hi hb sb cb B n:Nat) (on:Bool) (s s':St) (k:Int) (L:List Rg) (M st:Nat → Int) (mo ba en:Int) (Z:World):Prop where
  res:Z.heap[w.heap.size]? = some (.cells #[.int .i64 0,.int .i64 0,.int .u64 0] 33 (0,0))
  nxt:k = 0 → StAt Z (w.heap.size + 1) s'.pc s'.xs s'.ha s'.hn
  ht:HtAt Z hb s.pc s.xs s.ha s.hn sb cb
  ms:MS (gap T w.heap.size hi) Z sb n L M st mo ba en
  cch:Cch on sb L M st Z cb B
  fr:Fr (fun x=>T x ∨ x = hb ∨ x = B) w Z
  hi_:w.heap.size + 1 < hi
theorem HoZ.alloc {hi:Nat} {s':St} {k:Int} {Z:World} (h:HoZ T w hi hb sb cb B n on s s' k L M st mo ba en Z) (o:Obj):HoZ T w hi hb sb cb B n on s s' k L M st mo ba en (Z.alloc o):=
  ⟨(Bl.new _ _).at_ h.res,fun e=>(h.nxt e).bl (Bl.new _ _),h.ht.bl (Bl.new _ _),h.ms.bl (Bl.new _ _),h.cch.bl (Bl.new _ _),h.fr.trans (Fr.of_bl (Bl.new _ _)),h.hi_⟩
theorem HoZ.set {hi f:Nat} {s':St} {k:Int} {Z:World} (h:HoZ T w hi hb sb cb B n on s s' k L M st mo ba en Z) (hf:w.heap.size + 1 < f) (hf2:f < hi) (hb_:hb < w.heap.size) (hc:cb < w.heap.size) (hB:B < w.heap.size) (j:Nat) (u:Value):HoZ T w hi hb sb cb B n on s s' k L M st mo ba en (Z.setCell ⟨f,j,none⟩ u):=by
  have k0:Fr (only f) Z (Z.setCell ⟨f,j,none⟩ u):=Fr.set (S:=only f) (p:=⟨f,j,none⟩) rfl _
  exact ⟨k0.at_ h.res (fun e=>by have e3:w.heap.size = f:=e;omega),fun e=>(h.nxt e).fr k0 (fun e=>by have e3:w.heap.size + 1 = f:=e;omega),h.ht.fr k0 (fun e=>by have e3:hb = f:=e;omega),h.ms.kept k0 (fun b e e2=>e.2 (by have e3:b = f:=e2;omega)),h.cch.fr k0 (fun e=>by have e3:cb = f:=e;omega) (fun e=>by have e3:B = f:=e;omega),h.fr.newCellC (p:=⟨f,j,none⟩) (by show w.heap.size ≤ f;omega) _,h.hi_⟩
theorem hoz_of {V X w2:World} {s':St} {k:Int} {M' st':Nat → Int} (hlt:hb < w.heap.size) (hbT:¬ T hb) (hbB:hb ≠ B) (h:HoV T w hb sb cb B n on s L M st mo ba en V) (kX:Bl V X) (hm:MS (gap T w.heap.size X.heap.size) w2 sb (n + 9) L M' st' mo ba en) (hc:Cch on sb L M' st' w2 cb B) (hst:k = 0 → StAt w2 (w.heap.size + 1) s'.pc s'.xs s'.ha s'.hn) (f:Fr (fun x=>gap T w.heap.size X.heap.size x ∨ x = w.heap.size + 1 ∨ x = B) X w2) (hBl:B < w.heap.size) :
    HoZ T w X.heap.size hb sb cb B (n + 9) on s s' k L M' st' mo ba en w2:=by
  have h1:=lt_at h.nxt.blk
  have h2:=kX.size
  have nR:∀ x,x < X.heap.size → w.heap.size ≤ x → x ≠ w.heap.size + 1 → ¬ (gap T w.heap.size X.heap.size x ∨ x = w.heap.size + 1 ∨ x = B):=fun x g1 g2 g3 e=>by
    rcases e with e | e | e
    · exact gap_no g1 g2 e
    · exact g3 e
    · omega
  refine ⟨f.at_ (kX.at_ h.res) (nR _ (by omega) (Nat.le_refl _) (by omega)),hst,(h.ht.bl kX).fr f (fun e=>by
    rcases e with e | e | e
    · exact hbT e.1
    · omega
    · exact hbB e),hm,hc,?_,by omega⟩
  have f2:Fr (fun x=>(T x ∨ x = hb ∨ x = B) ∨ x = w.heap.size + 1) w w2:=(Fr.of_bl (h.bl.trans kX)).trans (f.mono fun x _ e=>by
    rcases e with e | e | e
    · exact .inl (.inl e.1)
    · exact .inr e
    · exact .inl (.inr (.inr e)))
  exact ⟨f2.os,f2.tape,f2.output,f2.size,fun x hx hn'=>f2.block x hx (fun e=>by
    rcases e with e | e
    · exact hn' e
    · omega)⟩
theorem keep2 {b i3 i4:Nat} {w8 w9:World} {v0 v1:Value} (k:Keeps b b w8 w9) (h:w8.cell? ⟨b,i3,none⟩ = some v0∧w8.cell? ⟨b,i4,none⟩ = some v1) :
    w9.cell? ⟨b,i3,none⟩ = some v0∧w9.cell? ⟨b,i4,none⟩ = some v1:=⟨k _ _ h.1 (.inl rfl),k _ _ h.2 (.inl rfl)⟩
theorem alloc_lt (V:World) (o:Obj):V.heap.size < (V.alloc o).drew.heap.size:=by show V.heap.size < (V.alloc o).heap.size;simp
theorem base_bl {b:Nat} {V X:World} (h:Base (gap T w.heap.size V.heap.size) V b sb cb B n on L M st mo ba en) (k:Bl V X):Base (gap T w.heap.size X.heap.size) X b sb cb B n on L M st mo ba en:=by
  have hs:=k.size
  refine ⟨(h.ms.gap k V.heap.size X.heap.size (Nat.le_refl _)).among (fun x hx e=>⟨e.1.1,fun e2=>?_⟩),h.cch.bl k,h.tabs.bl k,h.al,fun e=>h.nb ⟨e.1,fun e2=>e.2 ⟨e2.1,by omega⟩⟩,fun e=>h.nc ⟨e.1,fun e2=>e.2 ⟨e2.1,by omega⟩⟩,fun e=>h.nB ⟨e.1,fun e2=>e.2 ⟨e2.1,by omega⟩⟩,h.bc,h.bB,Nat.lt_of_lt_of_le h.cl hs,Nat.lt_of_lt_of_le h.Bl_ hs,h.B21,h.b21,fun g hg e=>h.t21 g hg ⟨e.1,fun e2=>e.2 ⟨e2.1,by omega⟩⟩⟩
  rcases Nat.lt_or_ge x V.heap.size with h1 | h1
  · exact e.1.2 ⟨e2.1,h1⟩
  · exact e.2 ⟨h1,e2.2⟩
theorem hoz_no {hi x:Nat} (hlt:hb < w.heap.size) (hB:B < w.heap.size) (h:w.heap.size + 1 < x) (h2:x < hi):¬ (gap T w.heap.size hi x ∨ x = w.heap.size + 1 ∨ x = B):=fun e=>by
  rcases e with e | e | e
  · exact gap_no h2 (by omega) e
  · omega
  · omega
theorem do_zero {i:Td.Ins} {k fk fa:Int} {s1:St} {M1:Nat → Int} (h:DoIs L M s i k fk fa s1 M1) (hk:k = 0):fk = 0∧fa = 0:=by
  cases h with
  | atomBad o N h hf h0=>exact absurd hk h0
  | atomOk o N h hf h0=>exact step_zero hf h0
  | _=>first | exact ⟨rfl,rfl⟩ | (exact absurd hk (by decide))
theorem mac_zero {k fk fa:Int} {s1:St} {M1:Nat → Int} (h:MacIs L M s k fk fa s1 M1) (hk:k = 0):fk = 0∧fa = 0:=by
  cases h with
  | bad A h1 h2=>exact absurd hk h2
  | go A _ _ _ _ _ h1 h2 h3=>exact do_zero h3 hk
theorem frame_end {Z Y X:World} (f:Fr (fun x=>T x ∨ x = hb ∨ x = B) w Z) (g:Fr (only hb) Z Y) (k:Fr (only w.heap.size) Y X):Fr (fun x=>T x ∨ x = hb ∨ x = B) w X:=by
  have h1:Fr (fun x=>(T x ∨ x = hb ∨ x = B) ∨ x = w.heap.size) w X:=((f.mono fun x _ e=>.inl e).trans (g.mono fun x _ e=>.inl (.inr (.inl e)))).trans (k.mono fun x _ e=>.inr e)
  exact ⟨h1.os,h1.tape,h1.output,h1.size,fun x hx hn'=>h1.block x hx (fun e=>by
    rcases e with e | e
    · exact hn' e
    · omega)⟩
theorem mach_end {hi:Nat} {s' s2:St} {k fk fa:Int} {M' st':Nat → Int} {Z Y X:World} (hlt:hb < w.heap.size) (hmi:MacIs L M s k fk fa s2 M') (h:Mach T w hb sb cb B n on s L M st mo ba en) (hz:HoZ T w hi hb sb cb B (n + 9) on s s' k L M' st' mo ba en Z) (g:Fr (only hb) Z Y) (k7:Fr (only w.heap.size) Y X) (ht:HtAt Y hb s2.pc s2.xs s2.ha s2.hn sb cb):Mach T X hb sb cb B (n + 9) on s2 L M' st' mo ba en:=by
  have h0:=h.base
  have hcl:=h0.cl
  have hBl:=h0.Bl_
  have hfr:=frame_end hz.fr g k7
  obtain ⟨r1,r2⟩:=hmi.keep h0.ms.by_ h.regs h.pcb
  have nhb:¬ only w.heap.size hb:=fun e=>by have e3:hb = w.heap.size:=e;omega
  refine ⟨ht.fr k7 nhb,r1,r2,⟨((hz.ms.kept g (fun x e e2=>h0.nb (by rw [← show x = hb from e2];exact e.1))).kept k7 (fun x e e2=>e.2 (by have e3:x = w.heap.size:=e2;have:=hz.hi_;omega))).ungap,(hz.cch.fr g (fun e=>h0.bc (Eq.symm e)) (fun e=>h0.bB (Eq.symm e))).fr k7 (fun e=>by have e3:cb = w.heap.size:=e;omega) (fun e=>by have e3:B = w.heap.size:=e;omega),h0.tabs.fr hfr (fun x hx e=>?_),h0.al,h0.nb,h0.nc,h0.nB,h0.bc,h0.bB,Nat.lt_of_lt_of_le hcl hfr.size,Nat.lt_of_lt_of_le hBl hfr.size,h0.B21,h0.b21,h0.t21⟩⟩
  have h5:=h0.b21
  have h6:=h0.B21
  rcases e with e | e | e
  · exact h0.t21 x hx e
  · omega
  · omega
theorem hstep_any (h:Mach T w hb sb cb B n on s L M st mo ba en) (hn0:n < 80000000) (hT:∀ b,w.heap.size ≤ b → T b) :
    Calls Tryz.prog 11 #[addr0 hb] w (HartPost T w hb sb cb B n on s L M st mo ba en):=by
  have hv:=hov_of h
  have K0:=hid (Bl.new w (.cells #[.int .i64 0,.int .i64 0,.int .u64 0] 33))
  have hld:=(h.ht.bl K0.out).load
  have hsn:=store47new (w.alloc (.cells #[.int .i64 0,.int .i64 0,.int .u64 0] 33)) s.pc s.xs s.ha s.hn h.regs.len
  rw [show (w.alloc (.cells #[.int .i64 0,.int .i64 0,.int .u64 0] 33)).heap.size = w.heap.size + 1 by simp] at hsn
  have HV:=hid hv;clear hv
  have H:=hid h;clear h
  have HT:=hid hT;clear hT
  have HN0:=hid hn0;clear hn0
  unfold addr0
  go_enter Tryz.func11,Tryz.ntmps11
  go_upto_region 4 with (first
    | (refine wplL _ rfl (.tmp 10) 47 rfl _ _ rfl hld ?_)
    | (refine wplS _ rfl (.tmp 3) (.tmp 11) 47 rfl _ _ rfl rfl hsn ?_)
    | go_in)
  (try simp only [Act.put])
  have hlt:=H.out.ht.lt
  have CS:=hid (fun X (kX:Bl ((w.alloc (.cells #[.int .i64 0,.int .i64 0,.int .u64 0] 33)).alloc (.cells (stV s.pc s.xs s.ha s.hn).toArray 47)) X)=>stepHa_any (HV.out.nxt.bl kX) H.out.regs H.out.pcb (base_bl HV.out.base kX) HN0.out (fun x hx=>⟨HT.out x (by have h1:=lt_at HV.out.nxt.blk;have h2:=kX.size;omega),fun e=>by have h2:=kX.size;omega⟩))
  generalize ((w.alloc (.cells #[.int .i64 0,.int .i64 0,.int .u64 0] 33)).alloc (.cells (stV s.pc s.xs s.ha s.hn).toArray 47)) = V at *
  unfold addr0 at CS
  have hp0:=HV.out.ht.ptrs
  unfold addr0 at hp0
  have HS:=hid hp0;clear hp0
  clear hld hsn K0
  go_region_held3 (fun w'=>w'.cell? ⟨hb,35,none⟩ = some (.pointer (some ⟨sb,0,none⟩))∧w'.cell? ⟨hb,36,none⟩ = some (.pointer (some ⟨cb,0,none⟩))) (first | (refine keep2 (w8:=w4) ?_ hkk;((repeat' (first | with_reducible apply Keeps.rfl' | with_reducible apply Keeps.set_ | with_reducible apply Keeps.alloc | with_reducible apply Keeps.drew)) <;> (have h1:=lt_at HV.out.nxt.blk;omega))) | (refine keep2 (w8:=V) ?_ HS.out;((repeat' (first | with_reducible apply Keeps.rfl' | with_reducible apply Keeps.set_ | with_reducible apply Keeps.alloc | with_reducible apply Keeps.drew)) <;> (have h1:=lt_at HV.out.nxt.blk;omega)))) (first
    | (go_at_call 30;with_reducible refine (CS.out V.drew (Bl.refl V).drew).mono ?_;rintro e w4 hh;unfold StepHaPost at hh;obtain ⟨k,fk,fa,s',M',st',hmi,rfl,hm,hc,hst,hfr⟩:=hh;have HZ:=hid (hoz_of hlt H.out.base.nb H.out.base.bB HV.out (Bl.refl V).drew hm hc hst hfr H.out.base.Bl_);have hp4:=HZ.out.ht.ptrs;unfold addr0 at hp4;have hkk:=hp4;have hsz4:=lt_at HZ.out.ht.blk;(try unfold stopV))
    | (go_at_call 30;with_reducible refine (CS.out (V.alloc (.cells #[.int .i64 0,.int .i64 0,.int .u64 0] 33)).drew (Bl.new V (.cells #[.int .i64 0,.int .i64 0,.int .u64 0] 33)).drew).mono ?_;rintro e w4 hh;unfold StepHaPost at hh;obtain ⟨k,fk,fa,s',M',st',hmi,rfl,hm,hc,hst,hfr⟩:=hh;have HZ:=hid (hoz_of hlt H.out.base.nb H.out.base.bB HV.out (Bl.new V (.cells #[.int .i64 0,.int .i64 0,.int .u64 0] 33)).drew hm hc hst hfr H.out.base.Bl_);have hp4:=HZ.out.ht.ptrs;unfold addr0 at hp4;have hkk:=hp4;have hsz4:=lt_at HZ.out.ht.blk;have FB:=hid (hfr.at_ (drew_at (heap_alloc_new V (.cells #[.int .i64 0,.int .i64 0,.int .u64 0] 33))) (hoz_no hlt (H.out.base.Bl_) (lt_at HV.out.nxt.blk) (alloc_lt V (.cells #[.int .i64 0,.int .i64 0,.int .u64 0] 33))));obtain ⟨q0,q1,q2⟩:=three_at FB.out;have q3:=free_at FB.out;have hlB:=lt_at FB.out;(try unfold stopV)))
  · have az:=HZ.out.alloc (.cells #[.int .i64 k,.int .i64 fk,.int .u64 fa] 33)
    have F2:Hid ((w4.alloc (.cells #[.int .i64 k,.int .i64 fk,.int .u64 fa] 33)).heap[w4.heap.size]? = some (.cells #[.int .i64 k,.int .i64 fk,.int .u64 fa] 33 (0,0))):=hid (heap_alloc_new w4 (.cells #[.int .i64 k,.int .i64 fk,.int .u64 fa] 33))
    generalize w4.alloc (.cells #[.int .i64 k,.int .i64 fk,.int .u64 fa] 33) = Z at *
    have HZ2:=hid az;clear az
    have HMI:=hid hmi;clear hmi
    clear hkk HZ CS HS hm hc hst hfr hp4 hsz4
    obtain ⟨c0,c1,c2⟩:=three_at F2.out
    obtain ⟨e0,e1,e2⟩:=three_at HZ2.out.res
    have z1:=free_at HZ2.out.res
    (try simp only [Exit.inBlock,Exit.then])
    by_cases hk:k = 0
    · subst hk
      have hld3:=(HZ2.out.nxt rfl).load
      have hl3:=(HZ2.out.nxt rfl).len
      have hsn3:=HZ2.out.ht.store s'.pc s'.xs s'.ha s'.hn hl3
      go_upto_region 9 with (first
        | (refine wplL _ rfl (.tmp 3) 47 rfl _ _ rfl hld3 ?_)
        | (refine wplS _ rfl (.tmp 33) (.tmp 31) 47 rfl _ _ rfl rfl hsn3 ?_)
        | go_in)
      obtain ⟨g1,g2⟩:=HZ2.out.ht.stored s'.pc s'.xs s'.ha s'.hn hl3
      have G1:=hid g1;clear g1
      have G2:=hid g2;clear g2
      clear c0 c1 c2 e0 e1 e2 z1 hld3 hsn3
      generalize Z.setCells hb 0 (stV s'.pc s'.xs s'.ha s'.hn) = Y at *
      have R9:=hid (G2.out.at_ HZ2.out.res (fun e=>by have e3:w.heap.size = hb:=e;omega))
      obtain ⟨e0,e1,e2⟩:=three_at R9.out
      have z1:=free_at R9.out
      (try simp only [Act.put])
      go_wp2_with fail
      (try simp only [Exit.inBlock,Exit.then])
      refine bodyPost_ret (results_cell_row rfl _ _ w.heap.size 33 _ (0,0) _ rfl (set3 (.int .i64 0) (.int .i64 0) (.int .u64 0) R9.out) Tryz.underlying33 rfl (by kernel_rfl)) rfl ?_
      have k7:Fr (only w.heap.size) Y (((Y.setCell ⟨w.heap.size,0,none⟩ (.int .i64 0)).setCell ⟨w.heap.size,1,none⟩ (.int .i64 0)).setCell ⟨w.heap.size,2,none⟩ (.int .u64 0)):=((Fr.set (S:=only w.heap.size) (p:=⟨w.heap.size,0,none⟩) rfl _).trans (Fr.set (S:=only w.heap.size) (p:=⟨w.heap.size,1,none⟩) rfl _)).trans (Fr.set (S:=only w.heap.size) (p:=⟨w.heap.size,2,none⟩) rfl _)
      have hz0:=mac_zero HMI.out rfl
      exact ⟨0,0,0,s',M',st',by rw [hz0.1,hz0.2] at HMI;exact HMI.out,rfl,mach_end hlt HMI.out H.out HZ2.out G2.out k7 G1.out,frame_end HZ2.out.fr G2.out k7⟩
    · have hk':=nin hk
      obtain ⟨g0,g1⟩:=HZ2.out.ht.hold
      have g2:=HZ2.out.ht.free
      go_wp2_with fail
      (try simp only [Exit.inBlock,Exit.then])
      have G1:=HZ2.out.ht.rest 0 0
      have G2:Fr (only hb) Z ((Z.setCell ⟨hb,33,none⟩ (.int .u64 0)).setCell ⟨hb,34,none⟩ (.int .i64 0)):=(Fr.set (S:=only hb) (p:=⟨hb,33,none⟩) rfl _).trans (Fr.set (S:=only hb) (p:=⟨hb,34,none⟩) rfl _)
      have R9:=G2.at_ HZ2.out.res (fun e=>by have e3:w.heap.size = hb:=e;omega)
      generalize ((Z.setCell ⟨hb,33,none⟩ (.int .u64 0)).setCell ⟨hb,34,none⟩ (.int .i64 0)) = Y at *
      refine bodyPost_ret (results_cell_row rfl _ _ w.heap.size 33 _ (0,0) _ rfl (set3 (.int .i64 k) (.int .i64 fk) (.int .u64 fa) R9) Tryz.underlying33 rfl (by kernel_rfl)) rfl ?_
      have k7:Fr (only w.heap.size) Y (((Y.setCell ⟨w.heap.size,0,none⟩ (.int .i64 k)).setCell ⟨w.heap.size,1,none⟩ (.int .i64 fk)).setCell ⟨w.heap.size,2,none⟩ (.int .u64 fa)):=((Fr.set (S:=only w.heap.size) (p:=⟨w.heap.size,0,none⟩) rfl _).trans (Fr.set (S:=only w.heap.size) (p:=⟨w.heap.size,1,none⟩) rfl _)).trans (Fr.set (S:=only w.heap.size) (p:=⟨w.heap.size,2,none⟩) rfl _)
      obtain ⟨rfl,rfl⟩:=HMI.out.stop hk
      exact ⟨k,fk,fa,s.rest,M',st',HMI.out,rfl,mach_end hlt HMI.out H.out HZ2.out G2 k7 G1,frame_end HZ2.out.fr G2 k7⟩
  · have az:=((HZ.out.set (f:=V.heap.size) (by have:=lt_at HV.out.nxt.blk;omega) (alloc_lt V (.cells #[.int .i64 0,.int .i64 0,.int .u64 0] 33)) hlt H.out.base.cl H.out.base.Bl_ 0 (.int .i64 k)).set (f:=V.heap.size) (by have:=lt_at HV.out.nxt.blk;omega) (alloc_lt V (.cells #[.int .i64 0,.int .i64 0,.int .u64 0] 33)) hlt H.out.base.cl H.out.base.Bl_ 1 (.int .i64 fk)).set (f:=V.heap.size) (by have:=lt_at HV.out.nxt.blk;omega) (alloc_lt V (.cells #[.int .i64 0,.int .i64 0,.int .u64 0] 33)) hlt H.out.base.cl H.out.base.Bl_ 2 (.int .u64 fa)
    have F2:Hid (((((w4.setCell ⟨V.heap.size,0,none⟩ (.int .i64 k)).setCell ⟨V.heap.size,1,none⟩ (.int .i64 fk)).setCell ⟨V.heap.size,2,none⟩ (.int .u64 fa))).heap[V.heap.size]? = some (.cells #[.int .i64 k,.int .i64 fk,.int .u64 fa] 33 (0,0))):=hid (set3 _ _ _ FB.out)
    generalize (((w4.setCell ⟨V.heap.size,0,none⟩ (.int .i64 k)).setCell ⟨V.heap.size,1,none⟩ (.int .i64 fk)).setCell ⟨V.heap.size,2,none⟩ (.int .u64 fa)) = Z at *
    have HZ2:=hid az;clear az
    have HMI:=hid hmi;clear hmi
    clear hkk HZ CS HS hm hc hst hfr hp4 hsz4
    obtain ⟨c0,c1,c2⟩:=three_at F2.out
    obtain ⟨e0,e1,e2⟩:=three_at HZ2.out.res
    have z1:=free_at HZ2.out.res
    (try simp only [Exit.inBlock,Exit.then])
    by_cases hk:k = 0
    · subst hk
      have hld3:=(HZ2.out.nxt rfl).load
      have hl3:=(HZ2.out.nxt rfl).len
      have hsn3:=HZ2.out.ht.store s'.pc s'.xs s'.ha s'.hn hl3
      go_upto_region 9 with (first
        | (refine wplL _ rfl (.tmp 3) 47 rfl _ _ rfl hld3 ?_)
        | (refine wplS _ rfl (.tmp 33) (.tmp 31) 47 rfl _ _ rfl rfl hsn3 ?_)
        | go_in)
      obtain ⟨g1,g2⟩:=HZ2.out.ht.stored s'.pc s'.xs s'.ha s'.hn hl3
      have G1:=hid g1;clear g1
      have G2:=hid g2;clear g2
      clear c0 c1 c2 e0 e1 e2 z1 hld3 hsn3
      generalize Z.setCells hb 0 (stV s'.pc s'.xs s'.ha s'.hn) = Y at *
      have R9:=hid (G2.out.at_ HZ2.out.res (fun e=>by have e3:w.heap.size = hb:=e;omega))
      obtain ⟨e0,e1,e2⟩:=three_at R9.out
      have z1:=free_at R9.out
      (try simp only [Act.put])
      go_wp2_with fail
      (try simp only [Exit.inBlock,Exit.then])
      refine bodyPost_ret (results_cell_row rfl _ _ w.heap.size 33 _ (0,0) _ rfl (set3 (.int .i64 0) (.int .i64 0) (.int .u64 0) R9.out) Tryz.underlying33 rfl (by kernel_rfl)) rfl ?_
      have k7:Fr (only w.heap.size) Y (((Y.setCell ⟨w.heap.size,0,none⟩ (.int .i64 0)).setCell ⟨w.heap.size,1,none⟩ (.int .i64 0)).setCell ⟨w.heap.size,2,none⟩ (.int .u64 0)):=((Fr.set (S:=only w.heap.size) (p:=⟨w.heap.size,0,none⟩) rfl _).trans (Fr.set (S:=only w.heap.size) (p:=⟨w.heap.size,1,none⟩) rfl _)).trans (Fr.set (S:=only w.heap.size) (p:=⟨w.heap.size,2,none⟩) rfl _)
      have hz0:=mac_zero HMI.out rfl
      exact ⟨0,0,0,s',M',st',by rw [hz0.1,hz0.2] at HMI;exact HMI.out,rfl,mach_end hlt HMI.out H.out HZ2.out G2.out k7 G1.out,frame_end HZ2.out.fr G2.out k7⟩
    · have hk':=nin hk
      obtain ⟨g0,g1⟩:=HZ2.out.ht.hold
      have g2:=HZ2.out.ht.free
      go_wp2_with fail
      (try simp only [Exit.inBlock,Exit.then])
      have G1:=HZ2.out.ht.rest 0 0
      have G2:Fr (only hb) Z ((Z.setCell ⟨hb,33,none⟩ (.int .u64 0)).setCell ⟨hb,34,none⟩ (.int .i64 0)):=(Fr.set (S:=only hb) (p:=⟨hb,33,none⟩) rfl _).trans (Fr.set (S:=only hb) (p:=⟨hb,34,none⟩) rfl _)
      have R9:=G2.at_ HZ2.out.res (fun e=>by have e3:w.heap.size = hb:=e;omega)
      generalize ((Z.setCell ⟨hb,33,none⟩ (.int .u64 0)).setCell ⟨hb,34,none⟩ (.int .i64 0)) = Y at *
      refine bodyPost_ret (results_cell_row rfl _ _ w.heap.size 33 _ (0,0) _ rfl (set3 (.int .i64 k) (.int .i64 fk) (.int .u64 fa) R9) Tryz.underlying33 rfl (by kernel_rfl)) rfl ?_
      have k7:Fr (only w.heap.size) Y (((Y.setCell ⟨w.heap.size,0,none⟩ (.int .i64 k)).setCell ⟨w.heap.size,1,none⟩ (.int .i64 fk)).setCell ⟨w.heap.size,2,none⟩ (.int .u64 fa)):=((Fr.set (S:=only w.heap.size) (p:=⟨w.heap.size,0,none⟩) rfl _).trans (Fr.set (S:=only w.heap.size) (p:=⟨w.heap.size,1,none⟩) rfl _)).trans (Fr.set (S:=only w.heap.size) (p:=⟨w.heap.size,2,none⟩) rfl _)
      obtain ⟨rfl,rfl⟩:=HMI.out.stop hk
      exact ⟨k,fk,fa,s.rest,M',st',HMI.out,rfl,mach_end hlt HMI.out H.out HZ2.out G2 k7 G1,frame_end HZ2.out.fr G2 k7⟩
end
end Go.Proofs.YtlhpodholnfppaaGreatDoor

namespace Go.Proofs.YtlhpodholnfppaaGreatDoor
open Go.RowKit
set_option maxRecDepth 100000
section
variable {S:Nat → Prop} {mo b0 b1:Int} {w w':World} {rb:Nat} {P P':List Pg} {M:Nat → Int}
end
end Go.Proofs.YtlhpodholnfppaaGreatDoor

namespace Go.Proofs.YtlhpodholnfppaaGreatDoor
open Go.RowKit
set_option maxRecDepth 100000
section
variable {S:Nat → Prop} {mo b0 b1:Int} {w:World} {rb:Nat} {P:List Pg} {M:Nat → Int}
theorem rp_set_no (h:RP S w rb P M mo b0 b1) (a:Nat) (ha:a < 2 ^ 64) (c:Int) (hno:∀ q,¬ OnP P a q) :
    Calls Tryz.prog 49 #[addr0 rb,.int .u64 (a:Int),.int .u8 c] w fun e w'=>e = .returned (.tuple #[])∧Bl w w':=by
  have ca:=rp_at h.space h.pgs (by have:=h.few;omega) ((a:Int) / 4096)
  have CA:=hid ca;clear ca h
  have haI:(a:Int) ≤ 18446744073709551615:=by omega
  have haI0:(0:Int) ≤ (a:Int):=by omega
  have HNO:=hid hno;clear hno ha
  unfold addr0 at *
  go_enter Tryz.func49,Tryz.ntmps49
  go_wp2_with fail
  with_reducible refine CA.out.mono ?_
  rintro e w1 ⟨j,ok,rfl,hat,k⟩
  have K:=hid k;clear k
  rcases hat with ⟨rfl,x,hx,hn⟩ | ⟨rfl,hno⟩
  · exact absurd (at_on (List.mem_of_getElem? hx) hn) (HNO.out _)
  · clear hno
    go_wp2
    first | go_end0 | ((try simp only [Exit.inBlock,Exit.then]);refine bodyPost_ret (results_none rfl _ _ _) rfl ?_)
    exact ⟨rfl,K.out⟩
theorem rp_set_rel (h:RP S w rb P M mo b0 b1) (a:Nat) (xs:List Int) (k:Nat) {M0:Nat → Int} (hp:PutRel (regs P) M0 a xs k M) (hk:k < xs.length) (hb:∀ k,0 ≤ xs.getD k 0∧xs.getD k 0 ≤ 255) (z:Int) (hz:z = ((a + k:Nat):Int)) (hak:a + k < 2 ^ 64) :
    Calls Tryz.prog 49 #[addr0 rb,.int .u64 z,.int .u8 (xs.getD k 0)] w fun e w'=>e = .returned (.tuple #[])∧(∃ M',RP S w' rb P M' mo b0 b1∧PutRel (regs P) M0 a xs (k + 1) M')∧Fr S w w':=by
  subst hz
  have hr:=fun (x:Nat) (q:Int)=>(regs_in h.pgs (a:=(x:Int)) (q:=q))
  by_cases hon:∃ q,OnP P ((a + k:Nat):Int) q
  · refine (rp_set h (a + k) hak (xs.getD k 0) (hb k) hon).mono ?_
    rintro e w' ⟨rfl,h1,h2⟩
    refine ⟨rfl,⟨_,h1,fun x=>?_⟩,h2⟩
    simp only [upd]
    by_cases hx:x = a + k
    · subst hx
      rw [if_pos rfl]
      refine ⟨fun _=>by rw [Nat.add_sub_cancel_left],fun hn=>absurd ⟨by omega,by omega,?_⟩ hn⟩
      obtain ⟨q,hq⟩:=hon
      exact ⟨q,(hr _ _).2 hq⟩
    · rw [if_neg hx]
      exact ⟨fun hc=>(hp x).1 ⟨hc.1,by omega,hc.2.2⟩,fun hn=>(hp x).2 fun hc=>hn ⟨hc.1,by omega,hc.2.2⟩⟩
  · refine (rp_set_no h (a + k) hak (xs.getD k 0) (fun q hq=>hon ⟨q,hq⟩)).mono ?_
    rintro e w' ⟨rfl,k1⟩
    refine ⟨rfl,⟨M,h.bl k1,fun x=>?_⟩,Fr.of_bl k1⟩
    by_cases hx:x = a + k
    · subst hx
      refine ⟨fun hc=>?_,fun hn=>(hp _).2 fun hc=>by omega⟩
      obtain ⟨q,hq⟩:=hc.2.2
      exact absurd ⟨q,(hr _ _).1 hq⟩ hon
    · exact ⟨fun hc=>(hp x).1 ⟨hc.1,by omega,hc.2.2⟩,fun hn=>(hp x).2 fun hc=>hn ⟨hc.1,by omega,hc.2.2⟩⟩
theorem rp_lays_rel (h:RP S w rb P M mo b0 b1) (a:Nat) (A:Option Addr) (len cap:Nat) (xs:List Int) (hr:Rd w A xs) (hl:xs.length = len) (hb:∀ k,0 ≤ xs.getD k 0∧xs.getD k 0 ≤ 255) (hA:0 < len → ∀ ad,A = some ad → ¬ S ad.block)
    (hat:a + len ≤ 274877906944) (hlen:len ≤ 4194304) :
    Calls Tryz.prog 27 #[addr0 rb,.int .u64 (a:Int),.slice A len cap] w fun e w'=>e = .returned (.tuple #[])∧(∃ M',RP S w' rb P M' mo b0 b1∧PutRel (regs P) M a xs len M')∧Fr S w w':=by
  have HR:=hid hr;clear hr
  have HL:=hid hl;clear hl
  have HB:=hid hb;clear hb
  have HAA:=hid hA;clear hA
  have H:=hid h;clear h
  have CS:=hid (fun W M' (h:RP S W rb P M' mo b0 b1) (k:Nat) (hp:PutRel (regs P) M a xs k M') (hk:k < xs.length) (z:Int) (hz:z = ((a + k:Nat):Int)) (hak:a + k < 2 ^ 64)=>rp_set_rel h a xs k hp hk HB.out z hz hak)
  have hatI:(a:Int) + (len:Int) ≤ 274877906944:=by omega
  have haI0:(0:Int) ≤ (a:Int):=by omega
  have HAT:=hid hat;clear hat hatI haI0
  obtain ⟨Z,hZ⟩:∃ Z:Int,Z = a:=⟨_,rfl⟩
  rw [← hZ]
  have HZ:=hid hZ;clear hZ
  have hz0:0 ≤ Z:=by have:=HZ.out;omega
  have hz1:Z ≤ 274877906944:=by have:=HZ.out;have:=HAT.out;omega
  have hlenI:(len:Int) ≤ 4194304:=by omega
  unfold addr0 at *
  go_enter Tryz.func27,Tryz.ntmps27
  go_wp2_with fail
  go_loopw [6] (fun i wr=>∃ k:Nat,k ≤ len∧i = .int .i64 k∧(∃ M',RP S wr rb P M' mo b0 b1∧PutRel (regs P) M a xs k M')∧Fr S w wr) (fun i _=>len - (intOf i).toNat)
  case atStart=>exact ⟨0,by omega,rfl,⟨M,H.out,PutRel.zero _ _ _ _⟩,Fr.refl _ _⟩
  case round =>
    obtain ⟨k,hk,rfl,⟨M',hrp,hpr⟩,hfr⟩:=hrel
    have HRP:=hid hrp;clear hrp
    have HPR:=hid hpr;clear hpr
    have HFR:=hid hfr;clear hfr
    by_cases hlt:k < len
    · have hr2:=HR.out.fr HFR.out (fun h0=>HAA.out (by rw [← HL.out];exact h0))
      obtain ⟨b,off,hA,hcell⟩:=hr2.at_ k (by rw [HL.out];exact hlt)
      have hA2:=hA
      subst hA
      have cs:=fun (z:Int) (hz:z = ((a + k:Nat):Int))=>CS.out wr M' HRP.out k HPR.out (by rw [HL.out];exact hlt) z hz (by have:=HAT.out;omega)
      have hx:=HB.out k
      generalize xs.getD k 0 = x at *
      have CS2:=hid cs;clear cs
      have hin:(k:Int) < (len:Int):=by omega
      have t1:decide (Z < 274877906944) = true:=by have:=HAT.out;have:=HZ.out;simp;omega
      have t2:decide (Z + (k:Int) < 274877906944) = true:=by have:=HAT.out;have:=HZ.out;simp;omega
      clear hr2 hA2
      go_wp2_with fail
      with_reducible refine (CS2.out (Z + (k:Int)) (by have:=HZ.out;omega)).mono ?_
      rintro e w1 ⟨rfl,h1,f1⟩
      have H1:=hid h1;clear h1
      have F1:=hid (HFR.out.trans f1);clear f1
      go_wp2_with fail
      refine ⟨⟨k + 1,by omega,by go_num,H1.out,F1.out⟩,?_⟩
      simp only [intOf];omega
    · obtain rfl:k = len:=by omega
      go_wp2_with fail
      go_end0
      exact ⟨rfl,⟨M',HRP.out,HPR.out⟩,HFR.out⟩
end
end Go.Proofs.YtlhpodholnfppaaGreatDoor

namespace Go.Proofs.YtlhpodholnfppaaGreatDoor
open Go.RowKit Go.ChangeShapes Go.WideShapes Go.Deep
set_option maxRecDepth 100000
structure BytesIn (w:World) (A:Option Addr) (l c:Nat) (xs:List Int):Prop where
  rd:Rd w A xs
  len:xs.length = l
  cap:l ≤ c
  nil:A = none → c = 0
  bd:∀ k,0 ≤ xs.getD k 0∧xs.getD k 0 ≤ 255
  lt:0 < l → ∀ ad,A = some ad → ad.block < w.heap.size
  le:l ≤ 9223372036854775807
theorem open_bytesIn {H:Type} {enc:TypeId × Value → H} {w:World} {base:Nat} {spare:Nat → Bool} {held:Bool} {fuel:Nat} {v:Value} {x:DataW H × List MemPlace} (h:DataW.trod enc Tryz.prog w base spare held fuel 22 [v] = some x) :
    ∃ A l c xs,v = .slice A l c∧BytesIn w A l c xs:=by
  rcases open_slice Tryz.underlying22 h with ⟨h1,_⟩ | ⟨ad,l,c,m,n,D,Pl,h1,h2,h3,h4,h5,h6,h7⟩
  · injection h1 with h1
    subst h1
    exact ⟨none,0,0,[],rfl,Rd.nil_,rfl,Nat.le_refl _,fun _=>rfl,fun k=>by simp,fun h=>absurd h (by omega),by omega⟩
  · injection h1 with h1
    subst h1
    have hc5:Tryz.prog.cellsOf 5 = 1:=by kernel_rfl
    have hm:l ≤ m:=by rw [h5];split <;> omega
    have key:∀ k,k < l → ∃ y:Int,w.cell? (ad.add k) = some (.int .u8 y)∧0 ≤ y∧y ≤ 255:=fun k hk=>by
      obtain ⟨cs,hcs,hts⟩:=h7 k (by omega)
      rw [hc5,Nat.mul_one] at hcs
      obtain ⟨hlen,_,hat⟩:=World.cells?_some hcs
      match cs,hlen with
      | [u],_ =>
        obtain ⟨y,e0,hw⟩:=DataW.trod_int Tryz.underlying5 hts
        cases e0
        have h8:=hat 0 (by omega)
        refine ⟨y,by simpa [show (ad.add k).add 0 = ad.add k from rfl] using h8,?_⟩
        exact u8_in (hw.2)
    have hch:∃ f:Nat → Int,∀ k,k < l → w.cell? (ad.add k) = some (.int .u8 (f k))∧0 ≤ f k∧f k ≤ 255:=by
      refine ⟨fun k=>if hk:k < l then Classical.choose (key k hk) else 0,fun k hk=>?_⟩
      simp only [dif_pos hk]
      exact Classical.choose_spec (key k hk)
    obtain ⟨f,hf⟩:=hch
    refine ⟨some ad,l,c,(List.range l).map f,rfl,fun _=>⟨ad,rfl,fun i hi=>?_⟩,by simp,h3,(fun e=>by cases e),fun k=>?_,fun h0 ad' e=>?_,by simp only [maxLen] at h4;omega⟩
    · have hi2:i < l:=by simpa using hi
      rw [(hf i hi2).1]
      simp [List.getD,hi2]
    · by_cases hk:k < l
      · have:=hf k hk
        simp [List.getD,hk,this.2]
      · simp [List.getD,hk]
    · cases e
      have h1:=block_lt_of_cell (hf 0 h0).1
      rwa [add_block] at h1
end Go.Proofs.YtlhpodholnfppaaGreatDoor

namespace Go.Proofs.YtlhpodholnfppaaGreatDoor
open Go.RowKit
set_option maxRecDepth 100000
def l1:List Rg:=[⟨65536,73728,7⟩]
def l2:List Rg:=[⟨65536,73728,7⟩,⟨131072,139264,3⟩]
def l3:List Rg:=[⟨65536,73728,7⟩,⟨131072,139264,3⟩,⟨139264,143360,1⟩]
theorem l1_rs:Rs l1:=⟨⟨by decide,fun r hr=>by simp only [l1,List.mem_cons,List.not_mem_nil,or_false] at hr;subst hr;decide⟩,fun r hr=>by simp only [l1,List.mem_cons,List.not_mem_nil,or_false] at hr;subst hr;decide⟩
theorem l2_rs:Rs l2:=⟨⟨by decide,fun r hr=>by simp only [l2,List.mem_cons,List.not_mem_nil,or_false] at hr;rcases hr with rfl | rfl <;> decide⟩,fun r hr=>by simp only [l2,List.mem_cons,List.not_mem_nil,or_false] at hr;rcases hr with rfl | rfl <;> decide⟩
theorem l3_rs:Rs l3:=⟨⟨by decide,fun r hr=>by simp only [l3,List.mem_cons,List.not_mem_nil,or_false] at hr;rcases hr with rfl | rfl | rfl <;> decide⟩,fun r hr=>by simp only [l3,List.mem_cons,List.not_mem_nil,or_false] at hr;rcases hr with rfl | rfl | rfl <;> decide⟩
theorem bl_fr' {w a b:World} {U:Nat → Prop} (hb:Bl w a) (f:Fr U a b) (hU:∀ q,q < w.heap.size → ¬ U q):Bl w b:=
  ⟨f.os.trans hb.os,f.tape.trans hb.tape,f.output.trans hb.output,Nat.le_trans hb.size f.size,fun q hq=>(f.block q (Nat.lt_of_lt_of_le hq hb.size) (hU q hq)).trans (hb.block q hq)⟩
theorem in_nil (x q:Int):¬ In [] x q:=fun ⟨r,hr,_⟩=>by cases hr
theorem in_cons (r:Rg) (L:List Rg) (x q:Int):In (r :: L) x q ↔ (r.s ≤ x∧x < r.e∧q = r.p) ∨ In L x q:=by
  constructor
  · rintro ⟨r',hr,h1,h2,h3⟩
    rcases List.mem_cons.1 hr with rfl | hr
    · exact .inl ⟨h1,h2,h3.symm⟩
    · exact .inr ⟨r',hr,h1,h2,h3⟩
  · rintro (⟨h1,h2,rfl⟩ | ⟨r',hr,h⟩)
    · exact ⟨r,List.mem_cons_self ..,h1,h2,rfl⟩
    · exact ⟨r',List.mem_cons_of_mem _ hr,h⟩
theorem lay_l1:layL [] ((65536:Nat):Int) ((73728:Nat):Int) [⟨((65536:Nat):Int),((73728:Nat):Int),7⟩] = l1:=by
  have hs:Span ((65536:Nat):Int) ((73728:Nat):Int):=⟨by omega,by omega,by omega,by omega⟩
  refine (Rs.nil.lay (by omega) hs).eq l1_rs fun x q=>?_
  rw [lay_in Rs.nil (by omega) hs,l1,in_cons]
  have:=in_nil x q
  simp only [this,or_false,and_false]
  omega
theorem lay_l2:layL l1 ((131072:Nat):Int) ((139264:Nat):Int) [⟨((131072:Nat):Int),((139264:Nat):Int),3⟩] = l2:=by
  have hs:Span ((131072:Nat):Int) ((139264:Nat):Int):=⟨by omega,by omega,by omega,by omega⟩
  refine (l1_rs.lay (by omega) hs).eq l2_rs fun x q=>?_
  rw [lay_in l1_rs (by omega) hs,l1,l2,in_cons,in_cons,in_cons]
  have:=in_nil x q
  simp only [this,or_false]
  omega
theorem lay_l3:layL l2 ((139264:Nat):Int) ((143360:Nat):Int) [⟨((139264:Nat):Int),((143360:Nat):Int),1⟩] = l3:=by
  have hs:Span ((139264:Nat):Int) ((143360:Nat):Int):=⟨by omega,by omega,by omega,by omega⟩
  refine (l2_rs.lay (by omega) hs).eq l3_rs fun x q=>?_
  rw [lay_in l2_rs (by omega) hs,l2,l3,in_cons,in_cons,in_cons,in_cons,in_cons]
  have:=in_nil x q
  simp only [this,or_false]
  omega
section
variable {K:Nat → Prop} {w w':World} {sb rb n:Nat} {L L2 L':List Rg} {M M2 st:Nat → Int} {mo:Int}
theorem hmap (h:Two K w sb rb n L zM st 20 0 0 L2 zM) (a b:Nat) (p:Int) (z:Int) (hp:0 ≤ p∧p ≤ 7) (hs:Span (a:Int) (b:Int)) (hb:(b:Int) = a + z) (hz:z % 4096 = 0) (hn:n < 70000000)
    (hl:layL L a b [⟨a,b,p⟩] = L') (hlen:L'.length ≤ 256) (ht:tot L' ≤ 81920) :
    Calls Tryz.prog 24 #[addr0 sb,.int .u64 (a:Int),.int .u64 z,.int .i64 p,.bool true] w fun e w'=>(∃ v,e = .returned v)∧(∃ st',Two K w' sb rb (n + 8192) L' zM st' 20 0 0 L2 zM)∧Fr (fun b=>¬ K b) w w':=by
  obtain ⟨T1,hm,hT,hcl⟩:=h.call1
  obtain ⟨s1,s2,s3,s4⟩:=hs
  refine (mmap_fixed hm a z p (by omega) (by omega) ⟨by omega,by omega,by omega,hp.1,hp.2⟩ (by omega) hT b (by rw [IntWalk.u64_in _ (by omega)];omega)).mono ?_
  rintro e w' ⟨r,rfl,hl'⟩
  unfold LayAny at hl'
  rw [hl] at hl'
  rcases hl' with ⟨rfl,_,_,_,_,_,st',h7,_,h9⟩ | ⟨_,hx,_⟩ | ⟨_,_,hx,_⟩
  · rw [wiped_zM] at h7
    obtain ⟨g1,g2⟩:=hcl _ _ _ _ _ _ _ _ rfl rfl rfl h7 h9
    exact ⟨⟨_,rfl⟩,⟨st',g1⟩,g2⟩
  · exact absurd ⟨⟨s1,s2,s3,s4⟩,hp.1,hp.2⟩ hx
  · omega
theorem hlay (h:Two K w sb rb n L2 M st 20 0 0 L zM) (a b:Nat) (p:Int) (hp:0 ≤ p∧p ≤ 7) (hs:Span (a:Int) (b:Int)) (hz:(b:Int) ≤ a + 8192) (hr:Rs L) (htL:tot L ≤ 40960) (hr':Rs L')
    (hl:layL L a b [⟨a,b,p⟩] = L') (hlen:L'.length ≤ 256) (ht:tot L' ≤ 81920) :
    Calls Tryz.prog 25 #[addr0 rb,.int .u64 (a:Int),.int .u64 (b:Int),.int .i64 p] w fun e w'=>(∃ v,e = .returned v)∧Two K w' sb rb n L2 M st 20 0 0 L' zM∧Fr (fun b=>¬ K b) w w':=by
  obtain ⟨T2,P,hm,hreg,hT,hcl⟩:=h.call2
  have hall:=regs_all hm.pgs (by omega)
  have heq:∀ P',Pgs 67108864 P' → SetAs P P' (a:Int) (b:Int) p → regs P' = L':=fun P' hp' hset=>by
    refine (regs_rs hp').eq hr' fun x q=>?_
    rw [regs_in hp',hset x q,← hl,lay_in hr (by omega) hs,← hreg,regs_in hm.pgs]
  refine (rp_lay hm hT a b p hp hs).mono ?_
  rintro e w' ⟨r,rfl,hl⟩
  rcases hl with ⟨rfl,P',g1,g2,g3,g4⟩ | ⟨rfl,_,hno | ⟨P',g1,g2,g3⟩⟩
  · rw [wiped_zM] at g1
    have h8:=hcl _ _ _ g1 g3
    rw [heq P' g1.pgs g2] at h8
    exact ⟨⟨_,rfl⟩,h8⟩
  · have h1:=outP_len P (a:Int) (b:Int)
    have h2:=hall.2.2.1
    rw [hreg] at h2
    obtain ⟨s1,s2,s3,s4⟩:=hs
    omega
  · rw [heq P' g1 g2] at g3
    omega
theorem Two.c1 (h:Two K w sb rb n L M st 20 0 0 L2 M2):∃ T1,MS T1 w sb n L M st 20 0 0∧(∀ b,w.heap.size ≤ b → T1 b)∧(∀ b,K b → ¬ T1 b)∧∀ w' n' L' M' st',MS T1 w' sb n' L' M' st' 20 0 0 → Fr T1 w w' → Two K w' sb rb n' L' M' st' 20 0 0 L2 M2∧Fr (fun b=>¬ K b) w w':=by
  obtain ⟨T1,T2,P,h1,h2,h3,h4,h5,h6⟩:=h.ex
  refine ⟨T1,h1,fun b hb=>(h6 b hb).1,fun b hb=>(h5 b hb).1,fun w' n' L' M' st' hm hf=>⟨?_,hf.mono fun b _ hT e=>(h5 b e).1 hT⟩⟩
  have hs:=hf.size
  refine ⟨T1,fun b=>T2 b∧(b < w.heap.size ∨ w'.heap.size ≤ b),P,hm,(h2.among fun b hb hT=>⟨hT,.inl hb⟩).kept hf (fun b hb e e2=>h4 b hb e2 e.1),h3,fun b hb e1 e2=>?_,fun b hb=>⟨(h5 b hb).1,fun e=>(h5 b hb).2 e.1⟩,fun b hb=>⟨(h6 b (by omega)).1,⟨(h6 b (by omega)).2,.inr hb⟩⟩⟩
  rcases e2.2 with h7 | h7
  · exact h4 b h7 e1 e2.1
  · omega
theorem Two.c2 (h:Two K w sb rb n L M st 20 0 0 L2 M2):∃ T2 P,RP T2 w rb P M2 20 0 0∧regs P = L2∧(∀ b,w.heap.size ≤ b → T2 b)∧(∀ b,K b → ¬ T2 b)∧∀ w' P' M2',RP T2 w' rb P' M2' 20 0 0 → Fr T2 w w' → Two K w' sb rb n L M st 20 0 0 (regs P') M2'∧Fr (fun b=>¬ K b) w w':=by
  obtain ⟨T1,T2,P,h1,h2,h3,h4,h5,h6⟩:=h.ex
  refine ⟨T2,P,h2,h3,fun b hb=>(h6 b hb).2,fun b hb=>(h5 b hb).2,fun w' P' M2' hm hf=>⟨?_,hf.mono fun b _ hT e=>(h5 b e).2 hT⟩⟩
  have hs:=hf.size
  have g1:MS (fun b=>T1 b∧(b < w.heap.size ∨ w'.heap.size ≤ b)) w' sb n L M st 20 0 0:=by
    have g:=h1.among (U:=fun b=>T1 b∧b < w.heap.size) fun b hb hT=>⟨hT,hb⟩
    have g2:=g.kept hf (fun b e e2=>h4 b e.2 e.1 e2)
    exact g2.among fun b hb e=>⟨e.1,.inl e.2⟩
  refine ⟨fun b=>T1 b∧(b < w.heap.size ∨ w'.heap.size ≤ b),T2,P',g1,hm,rfl,fun b hb e1 e2=>?_,fun b hb=>⟨fun e=>(h5 b hb).1 e.1,(h5 b hb).2⟩,fun b hb=>⟨⟨(h6 b (by omega)).1,.inr hb⟩,(h6 b (by omega)).2⟩⟩
  rcases e1.2 with h7 | h7
  · exact h4 b h7 e1.1 e2
  · omega
theorem Two.frX (h:Two K w sb rb n L M st 20 0 0 L2 M2) {U:Nat → Prop} (hf:Fr U w w') (hU:∀ b,b < w.heap.size → U b → K b):Two (fun b=>K b ∨ (w.heap.size ≤ b∧b < w'.heap.size)) w' sb rb n L M st 20 0 0 L2 M2:=by
  obtain ⟨T1,T2,P,h1,h2,h3,h4,h5,h6⟩:=h.ex
  have hs:=hf.size
  have g1:MS (fun b=>T1 b∧(b < w.heap.size ∨ w'.heap.size ≤ b)) w' sb n L M st 20 0 0:=
    ((h1.among (U:=fun b=>T1 b∧b < w.heap.size) fun b hb hT=>⟨hT,hb⟩).kept hf (fun b e e2=>(h5 b (hU b e.2 e2)).1 e.1)).among fun b hb e=>⟨e.1,.inl e.2⟩
  refine ⟨fun b=>T1 b∧(b < w.heap.size ∨ w'.heap.size ≤ b),fun b=>T2 b∧(b < w.heap.size ∨ w'.heap.size ≤ b),P,g1,(h2.among fun b hb hT=>⟨hT,.inl hb⟩).kept hf (fun b hb e e2=>(h5 b (hU b hb e2)).2 e.1),h3,fun b hb e1 e2=>?_,fun b hb=>?_,fun b hb=>⟨⟨(h6 b (by omega)).1,.inr hb⟩,⟨(h6 b (by omega)).2,.inr hb⟩⟩⟩
  · rcases e1.2 with h7 | h7
    · exact h4 b h7 e1.1 e2.1
    · omega
  · rcases hb with hb | hb
    · exact ⟨fun e=>(h5 b hb).1 e.1,fun e=>(h5 b hb).2 e.1⟩
    · exact ⟨fun e=>by rcases e.2 with h7 | h7 <;> omega,fun e=>by rcases e.2 with h7 | h7 <;> omega⟩
theorem hput1 (h:Two K w sb rb n l3 zM st 20 0 0 l3 zM) {A:Option Addr} {l c:Nat} {xs:List Int} (hb:BytesIn w A l c xs) (hK:0 < l → ∀ ad,A = some ad → K ad.block) (hl:l ≤ 8000) (hn:n < 8000000) :
    Calls Tryz.prog 26 #[addr0 sb,.int .u64 65536,.slice A l c] w fun e w'=>e = .returned (.tuple #[])∧(∃ M' st',Two K w' sb rb (n + 48000) l3 M' st' 20 0 0 l3 zM∧PutRel l3 zM 65536 xs l M')∧Fr (fun b=>¬ K b) w w':=by
  obtain ⟨T1,hm,hT,hKT,hcl⟩:=h.c1
  refine (mput_rel hm 65536 A l c xs hb.rd hb.len hb.cap hb.bd (fun h0 ad e=>hKT _ (hK h0 ad e)) (by omega) (by omega) (by omega) hT).mono ?_
  rintro e w' ⟨rfl,M',st',g1,g2,g3,g4⟩
  obtain ⟨q1,q2⟩:=hcl _ _ _ _ _ (g1.mono (by omega:n + 6 * l ≤ n + 48000)) g4
  exact ⟨rfl,⟨M',st',q1,g2⟩,q2⟩
theorem hput2 {M' st':Nat → Int} (h:Two K w sb rb n l3 M' st' 20 0 0 l3 zM) {A:Option Addr} {l c:Nat} {xs:List Int} (hb:BytesIn w A l c xs) (hK:0 < l → ∀ ad,A = some ad → K ad.block) (hl:l ≤ 8000) (hp:PutRel l3 zM 65536 xs l M') :
    Calls Tryz.prog 27 #[addr0 rb,.int .u64 65536,.slice A l c] w fun e w'=>e = .returned (.tuple #[])∧Two K w' sb rb n l3 M' st' 20 0 0 l3 M'∧Fr (fun b=>¬ K b) w w':=by
  obtain ⟨T2,P,hm,hreg,hT,hKT,hcl⟩:=h.c2
  refine (rp_lays_rel hm 65536 A l c xs hb.rd hb.len hb.bd (fun h0 ad e=>hKT _ (hK h0 ad e)) (by omega) (by omega)).mono ?_
  rintro e w' ⟨rfl,⟨M2,g1,g2⟩,g3⟩
  rw [hreg] at g2
  obtain rfl:=g2.one hp
  obtain ⟨q1,q2⟩:=hcl _ _ _ g1 g3
  rw [hreg] at q1
  exact ⟨rfl,q1,q2⟩
def valR (len:Nat) (rs:Nat → Int) (j:Nat):Int:=if j < len then rs j else 131072 + 8 * j
def rg (len:Nat) (rs:Nat → Int) (i:Nat):List Int:=(List.range 32).map fun j=>if 1 ≤ j∧j < i then valR len rs j else 0
theorem rg_len (len:Nat) (rs:Nat → Int) (i:Nat):(rg len rs i).length = 32:=by simp [rg]
theorem rg_get (len:Nat) (rs:Nat → Int) (i k:Nat) (hk:k < 32):(rg len rs i).getD k 0 = if 1 ≤ k∧k < i then valR len rs k else 0:=by
  simp [rg,List.getD_eq_getElem?_getD,hk]
theorem rg_one (len:Nat) (rs:Nat → Int):rg len rs 1 = List.replicate 32 0:=by
  refine List.ext_getElem (by simp [rg]) fun k h1 h2=>?_
  rw [List.getElem_replicate]
  simp only [rg,List.getElem_map,List.getElem_range]
  rw [if_neg (by omega)]
theorem rg_next (len:Nat) (rs:Nat → Int) (i:Nat) (h1:1 ≤ i) (h2:i < 32):(rg len rs i).set i (valR len rs i) = rg len rs (i + 1):=by
  refine List.ext_getElem (by simp [rg]) fun k h3 h4=>?_
  rw [List.getElem_set]
  simp only [rg,List.getElem_map,List.getElem_range]
  by_cases e:i = k
  · subst e;rw [if_pos rfl,if_pos ⟨h1,by omega⟩]
  · rw [if_neg e]
    by_cases e1:1 ≤ k∧k < i
    · rw [if_pos e1,if_pos ⟨e1.1,by omega⟩]
    · rw [if_neg e1,if_neg (by omega)]
theorem rg_set0 (len:Nat) (rs:Nat → Int) (i:Nat):(rg len rs i).set 0 0 = rg len rs i:=by
  refine List.ext_getElem (by simp [rg]) fun k h3 h4=>?_
  rw [List.getElem_set]
  split
  · rename_i e;subst e;simp [rg]
  · rfl
theorem rg_regs (len:Nat) (rs:Nat → Int) (i:Nat) (h:∀ j,j < len → 0 ≤ rs j∧rs j < 18446744073709551616):Regs (rg len rs i):=by
  refine ⟨rg_len ..,fun k=>?_,by rw [rg_get _ _ _ _ (by decide)];rfl⟩
  by_cases hk:k < 32
  · rw [rg_get _ _ _ _ hk]
    split
    · unfold valR
      split
      · exact h k (by assumption)
      · omega
    · omega
  · rw [List.getD_eq_getElem?_getD,List.getElem?_eq_none (by rw [rg_len];omega)];simp
end
end Go.Proofs.YtlhpodholnfppaaGreatDoor
