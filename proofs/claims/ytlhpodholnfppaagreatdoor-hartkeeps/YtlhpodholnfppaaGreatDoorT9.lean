/-
  Atomic instructions: a step.
  Unmap and Protect that would make too many regions.
-/
import Derived.Test.YtlhpodholnfppaaGreatDoorT8
import Derived.Test.YtlhpodholnfppaaGreatDoorT4
import Derived.Lib.Hide
set_option linter.unusedVariables false
set_option linter.unusedSimpArgs false
set_option maxHeartbeats 16000000
open Go.Lib (hid)
namespace Go.Proofs.YtlhpodholnfppaaGreatDoor
open Go.RowKit
set_option maxRecDepth 100000
section
variable {T:Nat → Prop} {w:World} {sb n0:Nat} {L:List Rg} {M st:Nat → Int} {mo ba en:Int}
inductive StepIs (L:List Rg) (M:Nat → Int) (ha hn op:Int) (a:Nat) (x:Int):Out → (Nat → Int) → Prop
  | none_:awid op = 0 → StepIs L M ha hn op a x (badO 3 0 0) M
  | align:awid op ≠ 0 → (a:Int) % (awid op:Int) ≠ 0 → StepIs L M ha hn op a x (badO 5 0 a) M
  | scBad (z:Int):op = 64 ∨ op = 75 → (a:Int) % (awid op:Int) = 0 → FirstAt L 2 a (awid op) z → StepIs L M ha hn op a x (badO 4 2 z) M
  | scNo:op = 64 ∨ op = 75 → (a:Int) % (awid op:Int) = 0 → AllCan L 2 a (awid op) → ¬ (ha = a∧hn = awid op) → StepIs L M ha hn op a x ⟨1,0,0,0,0,0⟩ M
  | scYes:op = 64 ∨ op = 75 → (a:Int) % (awid op:Int) = 0 → AllCan L 2 a (awid op) → (ha = a∧hn = awid op) → StepIs L M ha hn op a x ⟨0,0,0,0,0,0⟩ (lay M a (putB x (awid op)))
  | lrBad (z:Int):op = 63 ∨ op = 74 → (a:Int) % (awid op:Int) = 0 → FirstAt L 1 a (awid op) z → StepIs L M ha hn op a x (badO 4 1 z) M
  | lrYes:op = 63 ∨ op = 74 → (a:Int) % (awid op:Int) = 0 → AllCan L 1 a (awid op) → StepIs L M ha hn op a x ⟨sextI (numAt M a (awid op)) (8 * (awid op:Int)),a,awid op,0,0,0⟩ M
  | amBad (z:Int):op ∈ amoOps → (a:Int) % (awid op:Int) = 0 → FirstAt L 1 a (awid op) z → StepIs L M ha hn op a x (badO 4 1 z) M
  | amNo (z:Int):op ∈ amoOps → (a:Int) % (awid op:Int) = 0 → AllCan L 1 a (awid op) → FirstAt L 2 a (awid op) z → StepIs L M ha hn op a x (badO 4 2 z) M
  | amYes:op ∈ amoOps → (a:Int) % (awid op:Int) = 0 → AllCan L 1 a (awid op) → AllCan L 2 a (awid op) →
      StepIs L M ha hn op a x ⟨sextI (numAt M a (awid op)) (8 * (awid op:Int)),ha,hn,0,0,0⟩ (lay M a (putB (amoV op (numAt M a (awid op)) x) (awid op)))
def StepPost (T:Nat → Prop) (w:World) (sb n0:Nat) (L:List Rg) (M st:Nat → Int) (mo ba en:Int) (ha hn op:Int) (a:Nat) (x:Int) (e:Ending) (w':World):Prop:=∃ o M',e = .returned o.v∧StepIs L M ha hn op a x o M'∧(∃ st',Grow M M' st st'∧MS T w' sb (n0 + 9) L M' st' mo ba en)∧Fr T w w'
theorem step_none (h:MS T w sb n0 L M st mo ba en) (ha hn op:Int) (a:Nat) (x:Int) (hA:a < 2 ^ 64) (hx0:0 ≤ x) (hx1:x < 18446744073709551616) (hn0:n0 < 80000000) (hT:∀ b,w.heap.size ≤ b → T b) (ho:op < 63 ∨ 84 < op) :
    Calls Tryz.prog 132 #[addr0 sb,holdV ha hn,.int .i64 op,.int .u64 (a:Int),.int .u64 x] w (StepPost T w sb n0 L M st mo ba en ha hn op a x):=by
  have cw:∀ w,Calls Tryz.prog 86 #[.int .i64 op] w fun e w'=>e = .returned (.int .i64 0)∧w = w':=fun w=>by
    have:=awidth_any op w
    rwa [awid0 ho] at this
  have CW:=hid cw;clear cw
  obtain ⟨b0,b1,b2,b3⟩:=four_new w (.cells #[.int .u64 ha,.int .i64 hn] 45) (.cells #[.int .u64 0,.int .i64 0] 45) (.cells #[.int .i64 3,.int .i64 0,.int .u64 0] 33) (.cells #[.int .u64 (a:Int),.int .i64 0] 45)
  have k0:Bl w ((((w.alloc (.cells #[.int .u64 ha,.int .i64 hn] 45)).alloc (.cells #[.int .u64 0,.int .i64 0] 45)).alloc (.cells #[.int .i64 3,.int .i64 0,.int .u64 0] 33)).alloc (.cells #[.int .u64 (a:Int),.int .i64 0] 45)):=((((Bl.refl w).alloc _).alloc _).alloc _).alloc _
  have HS:=hid (StepIs.none_ (awid0 ho):StepIs L M ha hn op a x (badO 3 0 0) M);clear ho
  have H:=hid ((h.bl k0).mono (m:=n0 + 9) (by omega));clear h
  have HT_:=hid hT;clear hT
  have B1:=hid b1;clear b1
  have B2:=hid b2;clear b2 b0 b3
  have K0:=hid k0;clear k0
  have HA:=hid hA;clear hA
  have HN0:=hid hn0;clear hn0
  unfold addr0 holdV at *
  go_enter Tryz.func132,Tryz.ntmps132
  go_wp2_with fail
  with_reducible refine (CW.out _).mono ?_
  rintro e w' ⟨rfl,rfl⟩
  go_wp2_with fail
  (try simp only [Exit.inBlock,Exit.then])
  refine bodyPost_ret (results_tmp_rows rfl _ _ (w.heap.size + 1) (w.heap.size + 1 + 1) 45 33 _ _ (0,0) (0,0) _ _ rfl (B1.out) Tryz.underlying45 rfl (by kernel_rfl) rfl (B2.out) Tryz.underlying33 rfl (by kernel_rfl)) rfl ?_
  exact ⟨badO 3 0 0,M,rfl,HS.out,⟨st,Grow.refl M st,H.out⟩,Fr.of_bl K0.out⟩
theorem step_align4 (h:MS T w sb n0 L M st mo ba en) (ha hn op:Int) (a:Nat) (x:Int) (hA:a < 2 ^ 64) (hx0:0 ≤ x) (hx1:x < 18446744073709551616) (hn0:n0 < 80000000) (hT:∀ b,w.heap.size ≤ b → T b) (ho:awid op = 4) (hm:(a:Int) % 4 ≠ 0) :
    Calls Tryz.prog 132 #[addr0 sb,holdV ha hn,.int .i64 op,.int .u64 (a:Int),.int .u64 x] w (StepPost T w sb n0 L M st mo ba en ha hn op a x):=by
  have cw:∀ w,Calls Tryz.prog 86 #[.int .i64 op] w fun e w'=>e = .returned (.int .i64 4)∧w = w':=fun w=>by
    have:=awidth_any op w
    rwa [ho] at this
  have CW:=hid cw;clear cw
  obtain ⟨b0,b1,b2,b3⟩:=four_new w (.cells #[.int .u64 ha,.int .i64 hn] 45) (.cells #[.int .u64 0,.int .i64 0] 45) (.cells #[.int .i64 5,.int .i64 0,.int .u64 (a:Int)] 33) (.cells #[.int .u64 (a:Int),.int .i64 4] 45)
  have k0:Bl w ((((w.alloc (.cells #[.int .u64 ha,.int .i64 hn] 45)).alloc (.cells #[.int .u64 0,.int .i64 0] 45)).alloc (.cells #[.int .i64 5,.int .i64 0,.int .u64 (a:Int)] 33)).alloc (.cells #[.int .u64 (a:Int),.int .i64 4] 45)):=((((Bl.refl w).alloc _).alloc _).alloc _).alloc _
  have HS:=hid (StepIs.align (by omega) (by rw [ho];exact hm):StepIs L M ha hn op a x (badO 5 0 a) M);clear ho
  have t1:((a:Int) % 4 != 0) = true:=by simp only [bne_iff_ne,ne_eq];exact hm
  have haI:(a:Int) ≤ 18446744073709551615:=by omega
  have haI0:(0:Int) ≤ (a:Int):=by omega
  clear hm
  have H:=hid ((h.bl k0).mono (m:=n0 + 9) (by omega));clear h
  have HT_:=hid hT;clear hT
  have B1:=hid b1;clear b1
  have B2:=hid b2;clear b2 b0 b3
  have K0:=hid k0;clear k0
  have HA:=hid hA;clear hA
  have HN0:=hid hn0;clear hn0
  unfold addr0 holdV at *
  go_enter Tryz.func132,Tryz.ntmps132
  go_wp2_with fail
  with_reducible refine (CW.out _).mono ?_
  rintro e w' ⟨rfl,rfl⟩
  go_wp2_with fail
  (try simp only [Exit.inBlock,Exit.then])
  refine bodyPost_ret (results_tmp_rows rfl _ _ (w.heap.size + 1) (w.heap.size + 1 + 1) 45 33 _ _ (0,0) (0,0) _ _ rfl (B1.out) Tryz.underlying45 rfl (by kernel_rfl) rfl (B2.out) Tryz.underlying33 rfl (by kernel_rfl)) rfl ?_
  exact ⟨badO 5 0 a,M,rfl,HS.out,⟨st,Grow.refl M st,H.out⟩,Fr.of_bl K0.out⟩
theorem step_align8 (h:MS T w sb n0 L M st mo ba en) (ha hn op:Int) (a:Nat) (x:Int) (hA:a < 2 ^ 64) (hx0:0 ≤ x) (hx1:x < 18446744073709551616) (hn0:n0 < 80000000) (hT:∀ b,w.heap.size ≤ b → T b) (ho:awid op = 8) (hm:(a:Int) % 8 ≠ 0) :
    Calls Tryz.prog 132 #[addr0 sb,holdV ha hn,.int .i64 op,.int .u64 (a:Int),.int .u64 x] w (StepPost T w sb n0 L M st mo ba en ha hn op a x):=by
  have cw:∀ w,Calls Tryz.prog 86 #[.int .i64 op] w fun e w'=>e = .returned (.int .i64 8)∧w = w':=fun w=>by
    have:=awidth_any op w
    rwa [ho] at this
  have CW:=hid cw;clear cw
  obtain ⟨b0,b1,b2,b3⟩:=four_new w (.cells #[.int .u64 ha,.int .i64 hn] 45) (.cells #[.int .u64 0,.int .i64 0] 45) (.cells #[.int .i64 5,.int .i64 0,.int .u64 (a:Int)] 33) (.cells #[.int .u64 (a:Int),.int .i64 8] 45)
  have k0:Bl w ((((w.alloc (.cells #[.int .u64 ha,.int .i64 hn] 45)).alloc (.cells #[.int .u64 0,.int .i64 0] 45)).alloc (.cells #[.int .i64 5,.int .i64 0,.int .u64 (a:Int)] 33)).alloc (.cells #[.int .u64 (a:Int),.int .i64 8] 45)):=((((Bl.refl w).alloc _).alloc _).alloc _).alloc _
  have HS:=hid (StepIs.align (by omega) (by rw [ho];exact hm):StepIs L M ha hn op a x (badO 5 0 a) M);clear ho
  have t1:((a:Int) % 8 != 0) = true:=by simp only [bne_iff_ne,ne_eq];exact hm
  have haI:(a:Int) ≤ 18446744073709551615:=by omega
  have haI0:(0:Int) ≤ (a:Int):=by omega
  clear hm
  have H:=hid ((h.bl k0).mono (m:=n0 + 9) (by omega));clear h
  have HT_:=hid hT;clear hT
  have B1:=hid b1;clear b1
  have B2:=hid b2;clear b2 b0 b3
  have K0:=hid k0;clear k0
  have HA:=hid hA;clear hA
  have HN0:=hid hn0;clear hn0
  unfold addr0 holdV at *
  go_enter Tryz.func132,Tryz.ntmps132
  go_wp2_with fail
  with_reducible refine (CW.out _).mono ?_
  rintro e w' ⟨rfl,rfl⟩
  go_wp2_with fail
  (try simp only [Exit.inBlock,Exit.then])
  refine bodyPost_ret (results_tmp_rows rfl _ _ (w.heap.size + 1) (w.heap.size + 1 + 1) 45 33 _ _ (0,0) (0,0) _ _ rfl (B1.out) Tryz.underlying45 rfl (by kernel_rfl) rfl (B2.out) Tryz.underlying33 rfl (by kernel_rfl)) rfl ?_
  exact ⟨badO 5 0 a,M,rfl,HS.out,⟨st,Grow.refl M st,H.out⟩,Fr.of_bl K0.out⟩
theorem step_lr4 (h:MS T w sb n0 L M st mo ba en) (ha hn:Int) (a:Nat) (x:Int) (hA:a < 2 ^ 64) (hx0:0 ≤ x) (hx1:x < 18446744073709551616) (hn0:n0 < 80000000) (hT:∀ b,w.heap.size ≤ b → T b) (hm:(a:Int) % 4 = 0) :
    Calls Tryz.prog 132 #[addr0 sb,holdV ha hn,.int .i64 63,.int .u64 (a:Int),.int .u64 x] w (StepPost T w sb n0 L M st mo ba en ha hn 63 a x):=by
  have cw:∀ w,Calls Tryz.prog 86 #[.int .i64 63] w fun e w'=>e = .returned (.int .i64 4)∧w = w':=fun w=>by
    have:=awidth_any 63 w
    rwa [show awid 63 = 4 from rfl] at this
  have CW:=hid cw;clear cw
  obtain ⟨b0,b1,b2,b3⟩:=four_new w (.cells #[.int .u64 ha,.int .i64 hn] 45) (.cells #[.int .u64 0,.int .i64 0] 45) (.cells #[.int .i64 0,.int .i64 0,.int .u64 0] 33) (.cells #[.int .u64 (a:Int),.int .i64 4] 45)
  have k0:Bl w ((((w.alloc (.cells #[.int .u64 ha,.int .i64 hn] 45)).alloc (.cells #[.int .u64 0,.int .i64 0] 45)).alloc (.cells #[.int .i64 0,.int .i64 0,.int .u64 0] 33)).alloc (.cells #[.int .u64 (a:Int),.int .i64 4] 45)):=((((Bl.refl w).alloc _).alloc _).alloc _).alloc _
  have t1:((a:Int) % 4 != 0) = false:=by simp [hm]
  have cl:=loadh_any (h.bl k0) a 4 hA (by omega)
  rw [show ((4:Nat):Int) = 4 from rfl] at cl
  have CL:=hid cl;clear cl
  have HM:=hid hm;clear hm
  have haI:(a:Int) ≤ 18446744073709551615:=by omega
  have haI0:(0:Int) ≤ (a:Int):=by omega
  have H:=hid h;clear h
  have HT_:=hid hT;clear hT
  have B1:=hid b1;clear b1
  have B2:=hid b2;clear b2
  have B0:=hid b0;clear b0
  have B3:=hid b3;clear b3
  have K0:=hid k0;clear k0
  have HA:=hid hA;clear hA
  have HN0:=hid hn0;clear hn0
  unfold addr0 holdV at *
  go_enter Tryz.func132,Tryz.ntmps132
  go_wp2_with fail
  with_reducible refine (CW.out _).mono ?_
  rintro e w' ⟨rfl,rfl⟩
  go_wp2_with fail
  with_reducible refine CL.out.mono ?_
  rintro e w1 ⟨⟨y,ta,tn,k,fk,fa⟩,rfl,hh⟩
  obtain ⟨M',hs,st',hri,hms,hfr⟩:∃ M',StepIs L M ha hn 63 a x ⟨y,ta,tn,k,fk,fa⟩ M'∧∃ st',Grow M M' st st'∧MS (gap T w.heap.size ((((w.alloc (.cells #[.int .u64 ha,.int .i64 hn] 45)).alloc (.cells #[.int .u64 0,.int .i64 0] 45)).alloc (.cells #[.int .i64 0,.int .i64 0,.int .u64 0] 33)).alloc (.cells #[.int .u64 (a:Int),.int .i64 4] 45)).heap.size) w1 sb (n0 + 9) L M' st' mo ba en∧Fr (gap T w.heap.size ((((w.alloc (.cells #[.int .u64 ha,.int .i64 hn] 45)).alloc (.cells #[.int .u64 0,.int .i64 0] 45)).alloc (.cells #[.int .i64 0,.int .i64 0,.int .u64 0] 33)).alloc (.cells #[.int .u64 (a:Int),.int .i64 4] 45)).heap.size) ((((w.alloc (.cells #[.int .u64 ha,.int .i64 hn] 45)).alloc (.cells #[.int .u64 0,.int .i64 0] 45)).alloc (.cells #[.int .i64 0,.int .i64 0,.int .u64 0] 33)).alloc (.cells #[.int .u64 (a:Int),.int .i64 4] 45)) w1:=by
    have g:=(H.out.gap K0.out w.heap.size ((((w.alloc (.cells #[.int .u64 ha,.int .i64 hn] 45)).alloc (.cells #[.int .u64 0,.int .i64 0] 45)).alloc (.cells #[.int .i64 0,.int .i64 0,.int .u64 0] 33)).alloc (.cells #[.int .u64 (a:Int),.int .i64 4] 45)).heap.size (Nat.le_refl _)).mono (m:=n0 + 9) (by omega)
    obtain ⟨hc,kk⟩:=hh
    rcases hc with ⟨z,h1,h2⟩ | ⟨h1,h2⟩
    · exact ⟨M,by rw [h2];exact StepIs.lrBad z (by simp) HM.out h1,st,Grow.refl M st,g.bl kk,Fr.of_bl kk⟩
    · exact ⟨M,by rw [h2];exact StepIs.lrYes (by simp) HM.out h1,st,Grow.refl M st,g.bl kk,Fr.of_bl kk⟩
  have HSZ:=hid (lt_at B3.out)
  have HRI:=hid hri;clear hri
  have HS:=hid hs;clear hs hh
  have E1:=hfr.at_ B1.out (fun e=>e.2 ⟨by omega,by have:=HSZ.out;omega⟩)
  have E2:=hfr.at_ B2.out (fun e=>e.2 ⟨by omega,by have:=HSZ.out;omega⟩)
  have HFR:=hid (((Fr.of_bl K0.out).trans hfr.ungap:Fr T w w1));clear hfr
  have HMS:=hid hms;clear hms
  obtain ⟨x0,x1,f0,f1⟩:=row2 E1
  obtain ⟨d0,d1,d2,q0,q1,q2⟩:=row3 E2
  have E1':=hid E1;clear E1
  have E2':=hid E2;clear E2
  unfold Out.v holdV stopV
  go_wp2_with fail
  (try simp only [Exit.inBlock,Exit.then])
  obtain ⟨s1,s2,s3⟩:=set_both (S:=T) (by omega) E1'.out E2'.out (.int .u64 ta) (.int .i64 tn) (.int .i64 k) (.int .i64 fk) (.int .u64 fa) HFR.out (by omega) (by omega)
  have hms2:=keep_two (g:=w.heap.size + 1) (g2:=w.heap.size + 1 + 1) HMS.out (by have:=HSZ.out;omega) (by have:=HSZ.out;omega) (.int .u64 ta) (.int .i64 tn) (.int .i64 k) (.int .i64 fk) (.int .u64 fa)
  refine bodyPost_ret (results_tmp_rows rfl _ _ (w.heap.size + 1) (w.heap.size + 1 + 1) 45 33 _ _ (0,0) (0,0) _ _ rfl (s1) Tryz.underlying45 rfl (by kernel_rfl) rfl (s2) Tryz.underlying33 rfl (by kernel_rfl)) rfl ?_
  exact ⟨⟨y,ta,tn,k,fk,fa⟩,M',rfl,HS.out,⟨st',HRI.out,hms2⟩,s3⟩
theorem step_lr8 (h:MS T w sb n0 L M st mo ba en) (ha hn:Int) (a:Nat) (x:Int) (hA:a < 2 ^ 64) (hx0:0 ≤ x) (hx1:x < 18446744073709551616) (hn0:n0 < 80000000) (hT:∀ b,w.heap.size ≤ b → T b) (hm:(a:Int) % 8 = 0) :
    Calls Tryz.prog 132 #[addr0 sb,holdV ha hn,.int .i64 74,.int .u64 (a:Int),.int .u64 x] w (StepPost T w sb n0 L M st mo ba en ha hn 74 a x):=by
  have cw:∀ w,Calls Tryz.prog 86 #[.int .i64 74] w fun e w'=>e = .returned (.int .i64 8)∧w = w':=fun w=>by
    have:=awidth_any 74 w
    rwa [show awid 74 = 8 from rfl] at this
  have CW:=hid cw;clear cw
  obtain ⟨b0,b1,b2,b3⟩:=four_new w (.cells #[.int .u64 ha,.int .i64 hn] 45) (.cells #[.int .u64 0,.int .i64 0] 45) (.cells #[.int .i64 0,.int .i64 0,.int .u64 0] 33) (.cells #[.int .u64 (a:Int),.int .i64 8] 45)
  have k0:Bl w ((((w.alloc (.cells #[.int .u64 ha,.int .i64 hn] 45)).alloc (.cells #[.int .u64 0,.int .i64 0] 45)).alloc (.cells #[.int .i64 0,.int .i64 0,.int .u64 0] 33)).alloc (.cells #[.int .u64 (a:Int),.int .i64 8] 45)):=((((Bl.refl w).alloc _).alloc _).alloc _).alloc _
  have t1:((a:Int) % 8 != 0) = false:=by simp [hm]
  have cl:=loadh_any (h.bl k0) a 8 hA (by omega)
  rw [show ((8:Nat):Int) = 8 from rfl] at cl
  have CL:=hid cl;clear cl
  have HM:=hid hm;clear hm
  have haI:(a:Int) ≤ 18446744073709551615:=by omega
  have haI0:(0:Int) ≤ (a:Int):=by omega
  have H:=hid h;clear h
  have HT_:=hid hT;clear hT
  have B1:=hid b1;clear b1
  have B2:=hid b2;clear b2
  have B0:=hid b0;clear b0
  have B3:=hid b3;clear b3
  have K0:=hid k0;clear k0
  have HA:=hid hA;clear hA
  have HN0:=hid hn0;clear hn0
  unfold addr0 holdV at *
  go_enter Tryz.func132,Tryz.ntmps132
  go_wp2_with fail
  with_reducible refine (CW.out _).mono ?_
  rintro e w' ⟨rfl,rfl⟩
  go_wp2_with fail
  with_reducible refine CL.out.mono ?_
  rintro e w1 ⟨⟨y,ta,tn,k,fk,fa⟩,rfl,hh⟩
  obtain ⟨M',hs,st',hri,hms,hfr⟩:∃ M',StepIs L M ha hn 74 a x ⟨y,ta,tn,k,fk,fa⟩ M'∧∃ st',Grow M M' st st'∧MS (gap T w.heap.size ((((w.alloc (.cells #[.int .u64 ha,.int .i64 hn] 45)).alloc (.cells #[.int .u64 0,.int .i64 0] 45)).alloc (.cells #[.int .i64 0,.int .i64 0,.int .u64 0] 33)).alloc (.cells #[.int .u64 (a:Int),.int .i64 8] 45)).heap.size) w1 sb (n0 + 9) L M' st' mo ba en∧Fr (gap T w.heap.size ((((w.alloc (.cells #[.int .u64 ha,.int .i64 hn] 45)).alloc (.cells #[.int .u64 0,.int .i64 0] 45)).alloc (.cells #[.int .i64 0,.int .i64 0,.int .u64 0] 33)).alloc (.cells #[.int .u64 (a:Int),.int .i64 8] 45)).heap.size) ((((w.alloc (.cells #[.int .u64 ha,.int .i64 hn] 45)).alloc (.cells #[.int .u64 0,.int .i64 0] 45)).alloc (.cells #[.int .i64 0,.int .i64 0,.int .u64 0] 33)).alloc (.cells #[.int .u64 (a:Int),.int .i64 8] 45)) w1:=by
    have g:=(H.out.gap K0.out w.heap.size ((((w.alloc (.cells #[.int .u64 ha,.int .i64 hn] 45)).alloc (.cells #[.int .u64 0,.int .i64 0] 45)).alloc (.cells #[.int .i64 0,.int .i64 0,.int .u64 0] 33)).alloc (.cells #[.int .u64 (a:Int),.int .i64 8] 45)).heap.size (Nat.le_refl _)).mono (m:=n0 + 9) (by omega)
    obtain ⟨hc,kk⟩:=hh
    rcases hc with ⟨z,h1,h2⟩ | ⟨h1,h2⟩
    · exact ⟨M,by rw [h2];exact StepIs.lrBad z (by simp) HM.out h1,st,Grow.refl M st,g.bl kk,Fr.of_bl kk⟩
    · exact ⟨M,by rw [h2];exact StepIs.lrYes (by simp) HM.out h1,st,Grow.refl M st,g.bl kk,Fr.of_bl kk⟩
  have HSZ:=hid (lt_at B3.out)
  have HRI:=hid hri;clear hri
  have HS:=hid hs;clear hs hh
  have E1:=hfr.at_ B1.out (fun e=>e.2 ⟨by omega,by have:=HSZ.out;omega⟩)
  have E2:=hfr.at_ B2.out (fun e=>e.2 ⟨by omega,by have:=HSZ.out;omega⟩)
  have HFR:=hid (((Fr.of_bl K0.out).trans hfr.ungap:Fr T w w1));clear hfr
  have HMS:=hid hms;clear hms
  obtain ⟨x0,x1,f0,f1⟩:=row2 E1
  obtain ⟨d0,d1,d2,q0,q1,q2⟩:=row3 E2
  have E1':=hid E1;clear E1
  have E2':=hid E2;clear E2
  unfold Out.v holdV stopV
  go_wp2_with fail
  (try simp only [Exit.inBlock,Exit.then])
  obtain ⟨s1,s2,s3⟩:=set_both (S:=T) (by omega) E1'.out E2'.out (.int .u64 ta) (.int .i64 tn) (.int .i64 k) (.int .i64 fk) (.int .u64 fa) HFR.out (by omega) (by omega)
  have hms2:=keep_two (g:=w.heap.size + 1) (g2:=w.heap.size + 1 + 1) HMS.out (by have:=HSZ.out;omega) (by have:=HSZ.out;omega) (.int .u64 ta) (.int .i64 tn) (.int .i64 k) (.int .i64 fk) (.int .u64 fa)
  refine bodyPost_ret (results_tmp_rows rfl _ _ (w.heap.size + 1) (w.heap.size + 1 + 1) 45 33 _ _ (0,0) (0,0) _ _ rfl (s1) Tryz.underlying45 rfl (by kernel_rfl) rfl (s2) Tryz.underlying33 rfl (by kernel_rfl)) rfl ?_
  exact ⟨⟨y,ta,tn,k,fk,fa⟩,M',rfl,HS.out,⟨st',HRI.out,hms2⟩,s3⟩
theorem step_sc4 (h:MS T w sb n0 L M st mo ba en) (ha hn:Int) (a:Nat) (x:Int) (hA:a < 2 ^ 64) (hx0:0 ≤ x) (hx1:x < 18446744073709551616) (hn0:n0 < 80000000) (hT:∀ b,w.heap.size ≤ b → T b) (hm:(a:Int) % 4 = 0) :
    Calls Tryz.prog 132 #[addr0 sb,holdV ha hn,.int .i64 64,.int .u64 (a:Int),.int .u64 x] w (StepPost T w sb n0 L M st mo ba en ha hn 64 a x):=by
  have cw:∀ w,Calls Tryz.prog 86 #[.int .i64 64] w fun e w'=>e = .returned (.int .i64 4)∧w = w':=fun w=>by
    have:=awidth_any 64 w
    rwa [show awid 64 = 4 from rfl] at this
  have CW:=hid cw;clear cw
  obtain ⟨b0,b1,b2,b3⟩:=four_new w (.cells #[.int .u64 ha,.int .i64 hn] 45) (.cells #[.int .u64 0,.int .i64 0] 45) (.cells #[.int .i64 0,.int .i64 0,.int .u64 0] 33) (.cells #[.int .u64 (a:Int),.int .i64 4] 45)
  have k0:Bl w ((((w.alloc (.cells #[.int .u64 ha,.int .i64 hn] 45)).alloc (.cells #[.int .u64 0,.int .i64 0] 45)).alloc (.cells #[.int .i64 0,.int .i64 0,.int .u64 0] 33)).alloc (.cells #[.int .u64 (a:Int),.int .i64 4] 45)):=((((Bl.refl w).alloc _).alloc _).alloc _).alloc _
  have t1:((a:Int) % 4 != 0) = false:=by simp [hm]
  have cl:=storeh_any (h.gap k0 w.heap.size ((((w.alloc (.cells #[.int .u64 ha,.int .i64 hn] 45)).alloc (.cells #[.int .u64 0,.int .i64 0] 45)).alloc (.cells #[.int .i64 0,.int .i64 0,.int .u64 0] 33)).alloc (.cells #[.int .u64 (a:Int),.int .i64 4] 45)).heap.size (Nat.le_refl _)) ha hn a 4 x hA (by omega) hn0 (gap_new hT w.heap.size k0.size)
  rw [show ((4:Nat):Int) = 4 from rfl] at cl
  have CL:=hid cl;clear cl
  have HM:=hid hm;clear hm
  have haI:(a:Int) ≤ 18446744073709551615:=by omega
  have haI0:(0:Int) ≤ (a:Int):=by omega
  have H:=hid h;clear h
  have HT_:=hid hT;clear hT
  have B1:=hid b1;clear b1
  have B2:=hid b2;clear b2
  have B0:=hid b0;clear b0
  have B3:=hid b3;clear b3
  have K0:=hid k0;clear k0
  have HA:=hid hA;clear hA
  have HN0:=hid hn0;clear hn0
  unfold addr0 holdV at *
  go_enter Tryz.func132,Tryz.ntmps132
  go_wp2_with fail
  with_reducible refine (CW.out _).mono ?_
  rintro e w' ⟨rfl,rfl⟩
  go_wp2_with fail
  with_reducible refine CL.out.mono ?_
  rintro e w1 ⟨⟨y,ta,tn,k,fk,fa⟩,rfl,hh⟩
  obtain ⟨M',hs,st',hri,hms,hfr⟩:∃ M',StepIs L M ha hn 64 a x ⟨y,ta,tn,k,fk,fa⟩ M'∧∃ st',Grow M M' st st'∧MS (gap T w.heap.size ((((w.alloc (.cells #[.int .u64 ha,.int .i64 hn] 45)).alloc (.cells #[.int .u64 0,.int .i64 0] 45)).alloc (.cells #[.int .i64 0,.int .i64 0,.int .u64 0] 33)).alloc (.cells #[.int .u64 (a:Int),.int .i64 4] 45)).heap.size) w1 sb (n0 + 9) L M' st' mo ba en∧Fr (gap T w.heap.size ((((w.alloc (.cells #[.int .u64 ha,.int .i64 hn] 45)).alloc (.cells #[.int .u64 0,.int .i64 0] 45)).alloc (.cells #[.int .i64 0,.int .i64 0,.int .u64 0] 33)).alloc (.cells #[.int .u64 (a:Int),.int .i64 4] 45)).heap.size) ((((w.alloc (.cells #[.int .u64 ha,.int .i64 hn] 45)).alloc (.cells #[.int .u64 0,.int .i64 0] 45)).alloc (.cells #[.int .i64 0,.int .i64 0,.int .u64 0] 33)).alloc (.cells #[.int .u64 (a:Int),.int .i64 4] 45)) w1:=by
    have g:=(H.out.gap K0.out w.heap.size ((((w.alloc (.cells #[.int .u64 ha,.int .i64 hn] 45)).alloc (.cells #[.int .u64 0,.int .i64 0] 45)).alloc (.cells #[.int .i64 0,.int .i64 0,.int .u64 0] 33)).alloc (.cells #[.int .u64 (a:Int),.int .i64 4] 45)).heap.size (Nat.le_refl _)).mono (m:=n0 + 9) (by omega)
    rcases hh with ⟨z,h1,h2,kk⟩ | ⟨h1,h3,h2,kk⟩ | ⟨h1,h3,h2,⟨st',hri,hms⟩,hfr⟩
    · exact ⟨M,by rw [h2];exact StepIs.scBad z (by simp) HM.out h1,st,Grow.refl M st,g.bl kk,Fr.of_bl kk⟩
    · exact ⟨M,by rw [h2];exact StepIs.scNo (by simp) HM.out h1 h3,st,Grow.refl M st,g.bl kk,Fr.of_bl kk⟩
    · exact ⟨_,by rw [h2];exact StepIs.scYes (by simp) HM.out h1 h3,st',hri,hms,hfr⟩
  have HSZ:=hid (lt_at B3.out)
  have HRI:=hid hri;clear hri
  have HS:=hid hs;clear hs hh
  have E1:=hfr.at_ B1.out (fun e=>e.2 ⟨by omega,by have:=HSZ.out;omega⟩)
  have E2:=hfr.at_ B2.out (fun e=>e.2 ⟨by omega,by have:=HSZ.out;omega⟩)
  have HFR:=hid (((Fr.of_bl K0.out).trans hfr.ungap:Fr T w w1));clear hfr
  have HMS:=hid hms;clear hms
  obtain ⟨x0,x1,f0,f1⟩:=row2 E1
  obtain ⟨d0,d1,d2,q0,q1,q2⟩:=row3 E2
  have E1':=hid E1;clear E1
  have E2':=hid E2;clear E2
  unfold Out.v holdV stopV
  go_wp2_with fail
  (try simp only [Exit.inBlock,Exit.then])
  obtain ⟨s1,s2,s3⟩:=set_both (S:=T) (by omega) E1'.out E2'.out (.int .u64 ta) (.int .i64 tn) (.int .i64 k) (.int .i64 fk) (.int .u64 fa) HFR.out (by omega) (by omega)
  have hms2:=keep_two (g:=w.heap.size + 1) (g2:=w.heap.size + 1 + 1) HMS.out (by have:=HSZ.out;omega) (by have:=HSZ.out;omega) (.int .u64 ta) (.int .i64 tn) (.int .i64 k) (.int .i64 fk) (.int .u64 fa)
  refine bodyPost_ret (results_tmp_rows rfl _ _ (w.heap.size + 1) (w.heap.size + 1 + 1) 45 33 _ _ (0,0) (0,0) _ _ rfl (s1) Tryz.underlying45 rfl (by kernel_rfl) rfl (s2) Tryz.underlying33 rfl (by kernel_rfl)) rfl ?_
  exact ⟨⟨y,ta,tn,k,fk,fa⟩,M',rfl,HS.out,⟨st',HRI.out,hms2⟩,s3⟩
theorem step_sc8 (h:MS T w sb n0 L M st mo ba en) (ha hn:Int) (a:Nat) (x:Int) (hA:a < 2 ^ 64) (hx0:0 ≤ x) (hx1:x < 18446744073709551616) (hn0:n0 < 80000000) (hT:∀ b,w.heap.size ≤ b → T b) (hm:(a:Int) % 8 = 0) :
    Calls Tryz.prog 132 #[addr0 sb,holdV ha hn,.int .i64 75,.int .u64 (a:Int),.int .u64 x] w (StepPost T w sb n0 L M st mo ba en ha hn 75 a x):=by
  have cw:∀ w,Calls Tryz.prog 86 #[.int .i64 75] w fun e w'=>e = .returned (.int .i64 8)∧w = w':=fun w=>by
    have:=awidth_any 75 w
    rwa [show awid 75 = 8 from rfl] at this
  have CW:=hid cw;clear cw
  obtain ⟨b0,b1,b2,b3⟩:=four_new w (.cells #[.int .u64 ha,.int .i64 hn] 45) (.cells #[.int .u64 0,.int .i64 0] 45) (.cells #[.int .i64 0,.int .i64 0,.int .u64 0] 33) (.cells #[.int .u64 (a:Int),.int .i64 8] 45)
  have k0:Bl w ((((w.alloc (.cells #[.int .u64 ha,.int .i64 hn] 45)).alloc (.cells #[.int .u64 0,.int .i64 0] 45)).alloc (.cells #[.int .i64 0,.int .i64 0,.int .u64 0] 33)).alloc (.cells #[.int .u64 (a:Int),.int .i64 8] 45)):=((((Bl.refl w).alloc _).alloc _).alloc _).alloc _
  have t1:((a:Int) % 8 != 0) = false:=by simp [hm]
  have cl:=storeh_any (h.gap k0 w.heap.size ((((w.alloc (.cells #[.int .u64 ha,.int .i64 hn] 45)).alloc (.cells #[.int .u64 0,.int .i64 0] 45)).alloc (.cells #[.int .i64 0,.int .i64 0,.int .u64 0] 33)).alloc (.cells #[.int .u64 (a:Int),.int .i64 8] 45)).heap.size (Nat.le_refl _)) ha hn a 8 x hA (by omega) hn0 (gap_new hT w.heap.size k0.size)
  rw [show ((8:Nat):Int) = 8 from rfl] at cl
  have CL:=hid cl;clear cl
  have HM:=hid hm;clear hm
  have haI:(a:Int) ≤ 18446744073709551615:=by omega
  have haI0:(0:Int) ≤ (a:Int):=by omega
  have H:=hid h;clear h
  have HT_:=hid hT;clear hT
  have B1:=hid b1;clear b1
  have B2:=hid b2;clear b2
  have B0:=hid b0;clear b0
  have B3:=hid b3;clear b3
  have K0:=hid k0;clear k0
  have HA:=hid hA;clear hA
  have HN0:=hid hn0;clear hn0
  unfold addr0 holdV at *
  go_enter Tryz.func132,Tryz.ntmps132
  go_wp2_with fail
  with_reducible refine (CW.out _).mono ?_
  rintro e w' ⟨rfl,rfl⟩
  go_wp2_with fail
  with_reducible refine CL.out.mono ?_
  rintro e w1 ⟨⟨y,ta,tn,k,fk,fa⟩,rfl,hh⟩
  obtain ⟨M',hs,st',hri,hms,hfr⟩:∃ M',StepIs L M ha hn 75 a x ⟨y,ta,tn,k,fk,fa⟩ M'∧∃ st',Grow M M' st st'∧MS (gap T w.heap.size ((((w.alloc (.cells #[.int .u64 ha,.int .i64 hn] 45)).alloc (.cells #[.int .u64 0,.int .i64 0] 45)).alloc (.cells #[.int .i64 0,.int .i64 0,.int .u64 0] 33)).alloc (.cells #[.int .u64 (a:Int),.int .i64 8] 45)).heap.size) w1 sb (n0 + 9) L M' st' mo ba en∧Fr (gap T w.heap.size ((((w.alloc (.cells #[.int .u64 ha,.int .i64 hn] 45)).alloc (.cells #[.int .u64 0,.int .i64 0] 45)).alloc (.cells #[.int .i64 0,.int .i64 0,.int .u64 0] 33)).alloc (.cells #[.int .u64 (a:Int),.int .i64 8] 45)).heap.size) ((((w.alloc (.cells #[.int .u64 ha,.int .i64 hn] 45)).alloc (.cells #[.int .u64 0,.int .i64 0] 45)).alloc (.cells #[.int .i64 0,.int .i64 0,.int .u64 0] 33)).alloc (.cells #[.int .u64 (a:Int),.int .i64 8] 45)) w1:=by
    have g:=(H.out.gap K0.out w.heap.size ((((w.alloc (.cells #[.int .u64 ha,.int .i64 hn] 45)).alloc (.cells #[.int .u64 0,.int .i64 0] 45)).alloc (.cells #[.int .i64 0,.int .i64 0,.int .u64 0] 33)).alloc (.cells #[.int .u64 (a:Int),.int .i64 8] 45)).heap.size (Nat.le_refl _)).mono (m:=n0 + 9) (by omega)
    rcases hh with ⟨z,h1,h2,kk⟩ | ⟨h1,h3,h2,kk⟩ | ⟨h1,h3,h2,⟨st',hri,hms⟩,hfr⟩
    · exact ⟨M,by rw [h2];exact StepIs.scBad z (by simp) HM.out h1,st,Grow.refl M st,g.bl kk,Fr.of_bl kk⟩
    · exact ⟨M,by rw [h2];exact StepIs.scNo (by simp) HM.out h1 h3,st,Grow.refl M st,g.bl kk,Fr.of_bl kk⟩
    · exact ⟨_,by rw [h2];exact StepIs.scYes (by simp) HM.out h1 h3,st',hri,hms,hfr⟩
  have HSZ:=hid (lt_at B3.out)
  have HRI:=hid hri;clear hri
  have HS:=hid hs;clear hs hh
  have E1:=hfr.at_ B1.out (fun e=>e.2 ⟨by omega,by have:=HSZ.out;omega⟩)
  have E2:=hfr.at_ B2.out (fun e=>e.2 ⟨by omega,by have:=HSZ.out;omega⟩)
  have HFR:=hid (((Fr.of_bl K0.out).trans hfr.ungap:Fr T w w1));clear hfr
  have HMS:=hid hms;clear hms
  obtain ⟨x0,x1,f0,f1⟩:=row2 E1
  obtain ⟨d0,d1,d2,q0,q1,q2⟩:=row3 E2
  have E1':=hid E1;clear E1
  have E2':=hid E2;clear E2
  unfold Out.v holdV stopV
  go_wp2_with fail
  (try simp only [Exit.inBlock,Exit.then])
  obtain ⟨s1,s2,s3⟩:=set_both (S:=T) (by omega) E1'.out E2'.out (.int .u64 ta) (.int .i64 tn) (.int .i64 k) (.int .i64 fk) (.int .u64 fa) HFR.out (by omega) (by omega)
  have hms2:=keep_two (g:=w.heap.size + 1) (g2:=w.heap.size + 1 + 1) HMS.out (by have:=HSZ.out;omega) (by have:=HSZ.out;omega) (.int .u64 ta) (.int .i64 tn) (.int .i64 k) (.int .i64 fk) (.int .u64 fa)
  refine bodyPost_ret (results_tmp_rows rfl _ _ (w.heap.size + 1) (w.heap.size + 1 + 1) 45 33 _ _ (0,0) (0,0) _ _ rfl (s1) Tryz.underlying45 rfl (by kernel_rfl) rfl (s2) Tryz.underlying33 rfl (by kernel_rfl)) rfl ?_
  exact ⟨⟨y,ta,tn,k,fk,fa⟩,M',rfl,HS.out,⟨st',HRI.out,hms2⟩,s3⟩
theorem step_am4 (h:MS T w sb n0 L M st mo ba en) (ha hn op:Int) (a:Nat) (x:Int) (hA:a < 2 ^ 64) (hx0:0 ≤ x) (hx1:x < 18446744073709551616) (hn0:n0 < 80000000) (hT:∀ b,w.heap.size ≤ b → T b) (ho:op ∈ amoOps) (hw:awid op = 4) (hm:(a:Int) % 4 = 0) :
    Calls Tryz.prog 132 #[addr0 sb,holdV ha hn,.int .i64 op,.int .u64 (a:Int),.int .u64 x] w (StepPost T w sb n0 L M st mo ba en ha hn op a x):=by
  have cw:∀ w,Calls Tryz.prog 86 #[.int .i64 op] w fun e w'=>e = .returned (.int .i64 4)∧w = w':=fun w=>by
    have:=awidth_any op w
    rwa [hw] at this
  have CW:=hid cw;clear cw
  obtain ⟨b0,b1,b2,b3⟩:=four_new w (.cells #[.int .u64 ha,.int .i64 hn] 45) (.cells #[.int .u64 0,.int .i64 0] 45) (.cells #[.int .i64 0,.int .i64 0,.int .u64 0] 33) (.cells #[.int .u64 (a:Int),.int .i64 4] 45)
  have k0:Bl w ((((w.alloc (.cells #[.int .u64 ha,.int .i64 hn] 45)).alloc (.cells #[.int .u64 0,.int .i64 0] 45)).alloc (.cells #[.int .i64 0,.int .i64 0,.int .u64 0] 33)).alloc (.cells #[.int .u64 (a:Int),.int .i64 4] 45)):=((((Bl.refl w).alloc _).alloc _).alloc _).alloc _
  have t1:((a:Int) % 4 != 0) = false:=by simp [hm]
  have cl:=change_any (h.gap k0 w.heap.size ((((w.alloc (.cells #[.int .u64 ha,.int .i64 hn] 45)).alloc (.cells #[.int .u64 0,.int .i64 0] 45)).alloc (.cells #[.int .i64 0,.int .i64 0,.int .u64 0] 33)).alloc (.cells #[.int .u64 (a:Int),.int .i64 4] 45)).heap.size (Nat.le_refl _)) ha hn op a 4 x hA (by omega) hx0 hx1 hn0 (gap_new hT w.heap.size k0.size)
  rw [show ((4:Nat):Int) = 4 from rfl] at cl
  have CL:=hid cl;clear cl
  have HM:=hid (show (a:Int) % (awid op:Int) = 0 by rw [hw];exact hm);clear hm
  have hop:=ho
  simp only [amoOps,List.mem_cons,List.not_mem_nil,or_false] at hop
  have n1:(op == 63) = false:=nin (by omega)
  have n2:(op == 74) = false:=nin (by omega)
  have n3:(op == 64) = false:=nin (by omega)
  have n4:(op == 75) = false:=nin (by omega)
  have HO:=hid ho;clear ho hop
  have HW:=hid hw;clear hw
  have haI:(a:Int) ≤ 18446744073709551615:=by omega
  have haI0:(0:Int) ≤ (a:Int):=by omega
  have H:=hid h;clear h
  have HT_:=hid hT;clear hT
  have B1:=hid b1;clear b1
  have B2:=hid b2;clear b2
  have B0:=hid b0;clear b0
  have B3:=hid b3;clear b3
  have K0:=hid k0;clear k0
  have HA:=hid hA;clear hA
  have HN0:=hid hn0;clear hn0
  unfold addr0 holdV at *
  go_enter Tryz.func132,Tryz.ntmps132
  go_wp2_with fail
  with_reducible refine (CW.out _).mono ?_
  rintro e w' ⟨rfl,rfl⟩
  go_wp2_with fail
  with_reducible refine CL.out.mono ?_
  rintro e w1 ⟨⟨y,ta,tn,k,fk,fa⟩,rfl,hh⟩
  obtain ⟨M',hs,st',hri,hms,hfr⟩:∃ M',StepIs L M ha hn op a x ⟨y,ta,tn,k,fk,fa⟩ M'∧∃ st',Grow M M' st st'∧MS (gap T w.heap.size ((((w.alloc (.cells #[.int .u64 ha,.int .i64 hn] 45)).alloc (.cells #[.int .u64 0,.int .i64 0] 45)).alloc (.cells #[.int .i64 0,.int .i64 0,.int .u64 0] 33)).alloc (.cells #[.int .u64 (a:Int),.int .i64 4] 45)).heap.size) w1 sb (n0 + 9) L M' st' mo ba en∧Fr (gap T w.heap.size ((((w.alloc (.cells #[.int .u64 ha,.int .i64 hn] 45)).alloc (.cells #[.int .u64 0,.int .i64 0] 45)).alloc (.cells #[.int .i64 0,.int .i64 0,.int .u64 0] 33)).alloc (.cells #[.int .u64 (a:Int),.int .i64 4] 45)).heap.size) ((((w.alloc (.cells #[.int .u64 ha,.int .i64 hn] 45)).alloc (.cells #[.int .u64 0,.int .i64 0] 45)).alloc (.cells #[.int .i64 0,.int .i64 0,.int .u64 0] 33)).alloc (.cells #[.int .u64 (a:Int),.int .i64 4] 45)) w1:=by
    have g:=(H.out.gap K0.out w.heap.size ((((w.alloc (.cells #[.int .u64 ha,.int .i64 hn] 45)).alloc (.cells #[.int .u64 0,.int .i64 0] 45)).alloc (.cells #[.int .i64 0,.int .i64 0,.int .u64 0] 33)).alloc (.cells #[.int .u64 (a:Int),.int .i64 4] 45)).heap.size (Nat.le_refl _)).mono (m:=n0 + 9) (by omega)
    rcases hh with ⟨z,h1,h2,kk⟩ | ⟨z,h1,h3,h2,kk⟩ | ⟨h1,h3,h2,⟨st',hri,hms⟩,hfr⟩
    · exact ⟨M,by rw [h2];exact StepIs.amBad z HO.out HM.out (by rw [HW.out];exact h1),st,Grow.refl M st,g.bl kk,Fr.of_bl kk⟩
    · exact ⟨M,by rw [h2];exact StepIs.amNo z HO.out HM.out (by rw [HW.out];exact h1) (by rw [HW.out];exact h3),st,Grow.refl M st,g.bl kk,Fr.of_bl kk⟩
    · have hs:=StepIs.amYes (x:=x) (ha:=ha) (hn:=hn) (M:=M) HO.out HM.out (by rw [HW.out];exact h1) (by rw [HW.out];exact h3)
      rw [HW.out] at hs
      exact ⟨_,by rw [h2];exact hs,st',hri,hms,hfr⟩
  have HSZ:=hid (lt_at B3.out)
  have HRI:=hid hri;clear hri
  have HS:=hid hs;clear hs hh
  have E1:=hfr.at_ B1.out (fun e=>e.2 ⟨by omega,by have:=HSZ.out;omega⟩)
  have E2:=hfr.at_ B2.out (fun e=>e.2 ⟨by omega,by have:=HSZ.out;omega⟩)
  have HFR:=hid (((Fr.of_bl K0.out).trans hfr.ungap:Fr T w w1));clear hfr
  have HMS:=hid hms;clear hms
  obtain ⟨x0,x1,f0,f1⟩:=row2 E1
  obtain ⟨d0,d1,d2,q0,q1,q2⟩:=row3 E2
  have E1':=hid E1;clear E1
  have E2':=hid E2;clear E2
  unfold Out.v holdV stopV
  go_wp2_with fail
  (try simp only [Exit.inBlock,Exit.then])
  obtain ⟨s1,s2,s3⟩:=set_both (S:=T) (by omega) E1'.out E2'.out (.int .u64 ta) (.int .i64 tn) (.int .i64 k) (.int .i64 fk) (.int .u64 fa) HFR.out (by omega) (by omega)
  have hms2:=keep_two (g:=w.heap.size + 1) (g2:=w.heap.size + 1 + 1) HMS.out (by have:=HSZ.out;omega) (by have:=HSZ.out;omega) (.int .u64 ta) (.int .i64 tn) (.int .i64 k) (.int .i64 fk) (.int .u64 fa)
  refine bodyPost_ret (results_tmp_rows rfl _ _ (w.heap.size + 1) (w.heap.size + 1 + 1) 45 33 _ _ (0,0) (0,0) _ _ rfl (s1) Tryz.underlying45 rfl (by kernel_rfl) rfl (s2) Tryz.underlying33 rfl (by kernel_rfl)) rfl ?_
  exact ⟨⟨y,ta,tn,k,fk,fa⟩,M',rfl,HS.out,⟨st',HRI.out,hms2⟩,s3⟩
theorem step_am8 (h:MS T w sb n0 L M st mo ba en) (ha hn op:Int) (a:Nat) (x:Int) (hA:a < 2 ^ 64) (hx0:0 ≤ x) (hx1:x < 18446744073709551616) (hn0:n0 < 80000000) (hT:∀ b,w.heap.size ≤ b → T b) (ho:op ∈ amoOps) (hw:awid op = 8) (hm:(a:Int) % 8 = 0) :
    Calls Tryz.prog 132 #[addr0 sb,holdV ha hn,.int .i64 op,.int .u64 (a:Int),.int .u64 x] w (StepPost T w sb n0 L M st mo ba en ha hn op a x):=by
  have cw:∀ w,Calls Tryz.prog 86 #[.int .i64 op] w fun e w'=>e = .returned (.int .i64 8)∧w = w':=fun w=>by
    have:=awidth_any op w
    rwa [hw] at this
  have CW:=hid cw;clear cw
  obtain ⟨b0,b1,b2,b3⟩:=four_new w (.cells #[.int .u64 ha,.int .i64 hn] 45) (.cells #[.int .u64 0,.int .i64 0] 45) (.cells #[.int .i64 0,.int .i64 0,.int .u64 0] 33) (.cells #[.int .u64 (a:Int),.int .i64 8] 45)
  have k0:Bl w ((((w.alloc (.cells #[.int .u64 ha,.int .i64 hn] 45)).alloc (.cells #[.int .u64 0,.int .i64 0] 45)).alloc (.cells #[.int .i64 0,.int .i64 0,.int .u64 0] 33)).alloc (.cells #[.int .u64 (a:Int),.int .i64 8] 45)):=((((Bl.refl w).alloc _).alloc _).alloc _).alloc _
  have t1:((a:Int) % 8 != 0) = false:=by simp [hm]
  have cl:=change_any (h.gap k0 w.heap.size ((((w.alloc (.cells #[.int .u64 ha,.int .i64 hn] 45)).alloc (.cells #[.int .u64 0,.int .i64 0] 45)).alloc (.cells #[.int .i64 0,.int .i64 0,.int .u64 0] 33)).alloc (.cells #[.int .u64 (a:Int),.int .i64 8] 45)).heap.size (Nat.le_refl _)) ha hn op a 8 x hA (by omega) hx0 hx1 hn0 (gap_new hT w.heap.size k0.size)
  rw [show ((8:Nat):Int) = 8 from rfl] at cl
  have CL:=hid cl;clear cl
  have HM:=hid (show (a:Int) % (awid op:Int) = 0 by rw [hw];exact hm);clear hm
  have hop:=ho
  simp only [amoOps,List.mem_cons,List.not_mem_nil,or_false] at hop
  have n1:(op == 63) = false:=nin (by omega)
  have n2:(op == 74) = false:=nin (by omega)
  have n3:(op == 64) = false:=nin (by omega)
  have n4:(op == 75) = false:=nin (by omega)
  have HO:=hid ho;clear ho hop
  have HW:=hid hw;clear hw
  have haI:(a:Int) ≤ 18446744073709551615:=by omega
  have haI0:(0:Int) ≤ (a:Int):=by omega
  have H:=hid h;clear h
  have HT_:=hid hT;clear hT
  have B1:=hid b1;clear b1
  have B2:=hid b2;clear b2
  have B0:=hid b0;clear b0
  have B3:=hid b3;clear b3
  have K0:=hid k0;clear k0
  have HA:=hid hA;clear hA
  have HN0:=hid hn0;clear hn0
  unfold addr0 holdV at *
  go_enter Tryz.func132,Tryz.ntmps132
  go_wp2_with fail
  with_reducible refine (CW.out _).mono ?_
  rintro e w' ⟨rfl,rfl⟩
  go_wp2_with fail
  with_reducible refine CL.out.mono ?_
  rintro e w1 ⟨⟨y,ta,tn,k,fk,fa⟩,rfl,hh⟩
  obtain ⟨M',hs,st',hri,hms,hfr⟩:∃ M',StepIs L M ha hn op a x ⟨y,ta,tn,k,fk,fa⟩ M'∧∃ st',Grow M M' st st'∧MS (gap T w.heap.size ((((w.alloc (.cells #[.int .u64 ha,.int .i64 hn] 45)).alloc (.cells #[.int .u64 0,.int .i64 0] 45)).alloc (.cells #[.int .i64 0,.int .i64 0,.int .u64 0] 33)).alloc (.cells #[.int .u64 (a:Int),.int .i64 8] 45)).heap.size) w1 sb (n0 + 9) L M' st' mo ba en∧Fr (gap T w.heap.size ((((w.alloc (.cells #[.int .u64 ha,.int .i64 hn] 45)).alloc (.cells #[.int .u64 0,.int .i64 0] 45)).alloc (.cells #[.int .i64 0,.int .i64 0,.int .u64 0] 33)).alloc (.cells #[.int .u64 (a:Int),.int .i64 8] 45)).heap.size) ((((w.alloc (.cells #[.int .u64 ha,.int .i64 hn] 45)).alloc (.cells #[.int .u64 0,.int .i64 0] 45)).alloc (.cells #[.int .i64 0,.int .i64 0,.int .u64 0] 33)).alloc (.cells #[.int .u64 (a:Int),.int .i64 8] 45)) w1:=by
    have g:=(H.out.gap K0.out w.heap.size ((((w.alloc (.cells #[.int .u64 ha,.int .i64 hn] 45)).alloc (.cells #[.int .u64 0,.int .i64 0] 45)).alloc (.cells #[.int .i64 0,.int .i64 0,.int .u64 0] 33)).alloc (.cells #[.int .u64 (a:Int),.int .i64 8] 45)).heap.size (Nat.le_refl _)).mono (m:=n0 + 9) (by omega)
    rcases hh with ⟨z,h1,h2,kk⟩ | ⟨z,h1,h3,h2,kk⟩ | ⟨h1,h3,h2,⟨st',hri,hms⟩,hfr⟩
    · exact ⟨M,by rw [h2];exact StepIs.amBad z HO.out HM.out (by rw [HW.out];exact h1),st,Grow.refl M st,g.bl kk,Fr.of_bl kk⟩
    · exact ⟨M,by rw [h2];exact StepIs.amNo z HO.out HM.out (by rw [HW.out];exact h1) (by rw [HW.out];exact h3),st,Grow.refl M st,g.bl kk,Fr.of_bl kk⟩
    · have hs:=StepIs.amYes (x:=x) (ha:=ha) (hn:=hn) (M:=M) HO.out HM.out (by rw [HW.out];exact h1) (by rw [HW.out];exact h3)
      rw [HW.out] at hs
      exact ⟨_,by rw [h2];exact hs,st',hri,hms,hfr⟩
  have HSZ:=hid (lt_at B3.out)
  have HRI:=hid hri;clear hri
  have HS:=hid hs;clear hs hh
  have E1:=hfr.at_ B1.out (fun e=>e.2 ⟨by omega,by have:=HSZ.out;omega⟩)
  have E2:=hfr.at_ B2.out (fun e=>e.2 ⟨by omega,by have:=HSZ.out;omega⟩)
  have HFR:=hid (((Fr.of_bl K0.out).trans hfr.ungap:Fr T w w1));clear hfr
  have HMS:=hid hms;clear hms
  obtain ⟨x0,x1,f0,f1⟩:=row2 E1
  obtain ⟨d0,d1,d2,q0,q1,q2⟩:=row3 E2
  have E1':=hid E1;clear E1
  have E2':=hid E2;clear E2
  unfold Out.v holdV stopV
  go_wp2_with fail
  (try simp only [Exit.inBlock,Exit.then])
  obtain ⟨s1,s2,s3⟩:=set_both (S:=T) (by omega) E1'.out E2'.out (.int .u64 ta) (.int .i64 tn) (.int .i64 k) (.int .i64 fk) (.int .u64 fa) HFR.out (by omega) (by omega)
  have hms2:=keep_two (g:=w.heap.size + 1) (g2:=w.heap.size + 1 + 1) HMS.out (by have:=HSZ.out;omega) (by have:=HSZ.out;omega) (.int .u64 ta) (.int .i64 tn) (.int .i64 k) (.int .i64 fk) (.int .u64 fa)
  refine bodyPost_ret (results_tmp_rows rfl _ _ (w.heap.size + 1) (w.heap.size + 1 + 1) 45 33 _ _ (0,0) (0,0) _ _ rfl (s1) Tryz.underlying45 rfl (by kernel_rfl) rfl (s2) Tryz.underlying33 rfl (by kernel_rfl)) rfl ?_
  exact ⟨⟨y,ta,tn,k,fk,fa⟩,M',rfl,HS.out,⟨st',HRI.out,hms2⟩,s3⟩
theorem step_any (h:MS T w sb n0 L M st mo ba en) (ha hn op:Int) (a:Nat) (x:Int) (hA:a < 2 ^ 64) (hx0:0 ≤ x) (hx1:x < 18446744073709551616) (hn0:n0 < 80000000) (hT:∀ b,w.heap.size ≤ b → T b) :
    Calls Tryz.prog 132 #[addr0 sb,holdV ha hn,.int .i64 op,.int .u64 (a:Int),.int .u64 x] w (StepPost T w sb n0 L M st mo ba en ha hn op a x):=by
  by_cases h0:op < 63 ∨ 84 < op
  · exact step_none h ha hn op a x hA hx0 hx1 hn0 hT h0
  · by_cases h4:op ≤ 73
    · have hw:awid op = 4:=awid4 ⟨by omega,h4⟩
      by_cases hm:(a:Int) % 4 = 0
      · by_cases e1:op = 63
        · subst e1;exact step_lr4 h ha hn a x hA hx0 hx1 hn0 hT hm
        · by_cases e2:op = 64
          · subst e2;exact step_sc4 h ha hn a x hA hx0 hx1 hn0 hT hm
          · exact step_am4 h ha hn op a x hA hx0 hx1 hn0 hT (by simp only [amoOps,List.mem_cons,List.not_mem_nil,or_false];omega) hw hm
      · exact step_align4 h ha hn op a x hA hx0 hx1 hn0 hT hw hm
    · have hw:awid op = 8:=awid8 ⟨by omega,by omega⟩
      by_cases hm:(a:Int) % 8 = 0
      · by_cases e1:op = 74
        · subst e1;exact step_lr8 h ha hn a x hA hx0 hx1 hn0 hT hm
        · by_cases e2:op = 75
          · subst e2;exact step_sc8 h ha hn a x hA hx0 hx1 hn0 hT hm
          · exact step_am8 h ha hn op a x hA hx0 hx1 hn0 hT (by simp only [amoOps,List.mem_cons,List.not_mem_nil,or_false];omega) hw hm
      · exact step_align8 h ha hn op a x hA hx0 hx1 hn0 hT hw hm
end
end Go.Proofs.YtlhpodholnfppaaGreatDoor

namespace Go.Proofs.YtlhpodholnfppaaGreatDoor
open Go.RowKit
set_option maxRecDepth 100000
end Go.Proofs.YtlhpodholnfppaaGreatDoor
