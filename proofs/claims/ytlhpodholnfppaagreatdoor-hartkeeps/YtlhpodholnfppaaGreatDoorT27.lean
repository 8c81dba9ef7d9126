/-
  The program's loads and stores of a machine.
  The program's stores of a machine.
-/
import Derived.Test.YtlhpodholnfppaaGreatDoorT26
import Derived.Deep.RegionHeld3
import Derived.Lib.Hide
set_option linter.unusedVariables false
set_option linter.unusedSimpArgs false
set_option maxHeartbeats 16000000
open Go.Lib (hid)
namespace Go.Proofs.YtlhpodholnfppaaGreatDoor
open Go.RowKit
set_option maxRecDepth 100000
section
variable {T:Nat → Prop} {w:World} {b sb n:Nat} {pc ha hn:Int} {xs:List Int} {L:List Rg} {M st:Nat → Int} {mo ba en:Int}
theorem two_newD (w:World) (a b:Obj):((w.alloc a).alloc b).heap[w.heap.size]? = some a∧((w.alloc a).alloc b).heap[w.heap.size + 1]? = some b:=by
  refine ⟨(Bl.new _ _).at_ (heap_alloc_new w a),?_⟩
  have:=heap_alloc_new (w.alloc a) b
  rwa [show (w.alloc a).heap.size = w.heap.size + 1 by simp] at this
def LoadHaPost (w:World) (b:Nat) (pc:Int) (xs:List Int) (ha hn:Int) (L:List Rg) (M:Nat → Int) (i:Td.Ins) (e:Ending) (w':World):Prop:=
  (∃ z,FirstAt L 1 (adr xs i) (lwid i.op) z∧e = .returned (stopV 4 1 z)∧Bl w w') ∨
  (AllCan L 1 (adr xs i) (lwid i.op)∧e = .returned (stopV 0 0 0)∧StAt w' b pc (setX xs i.rd (loadV i.op (numAt M (adr xs i).toNat (lwid i.op)))) ha hn∧Fr (only b) w w')
theorem haLoad_any (h:StAt w b pc xs ha hn) (hR:Regs xs) (hm:MS T w sb n L M st mo ba en) (i:Td.Ins) (ho:11 ≤ i.op∧i.op ≤ 17) (hd:0 ≤ i.rd∧i.rd < 32) (hr:0 ≤ i.r1∧i.r1 < 32) :
    Calls Tryz.prog 83 #[addr0 b,addr0 sb,.agg i.cells] w (LoadHaPost w b pc xs ha hn L M i):=by
  have K0:=hid ((Bl.new w (.cells i.cells 38)).alloc (.cells #[.int .i64 0,.int .i64 0,.int .u64 0] 33))
  obtain ⟨b0,b1⟩:=two_newD w (.cells i.cells 38) (.cells #[.int .i64 0,.int .i64 0,.int .u64 0] 33)
  obtain ⟨m,hmm⟩:∃ m:Nat,m = lwid i.op:=⟨_,rfl⟩
  have hmw:=lwid_is i.op
  obtain ⟨a,haa⟩:=Int.eq_ofNat_of_zero_le (show 0 ≤ adr xs i from (wrap_bd _).1)
  have hab:a < 18446744073709551616:=by have:=(wrap_bd (rx xs i.r1 + IntKind.u64.wrap i.im)).2;unfold adr at haa;omega
  have CB:=hid (fun W=>loadBytes_any i.op W ho)
  have CA:=hid (fun W (k:Bl w W)=>place_any (h.bl k) i hr)
  have CL:=hid (fun W (k:Bl w W)=>load_any (hm.bl k) a m hab (by rw [hmm];exact hmw))
  have CP:=hid (fun V y (g:StAt V b pc xs ha hn)=>put_any g hR i.rd hd y)
  have CF:=hid (fun k x w=>hfaulty_any k x w)
  have CS:=hid (fun x W=>sext_any x (8 * (m:Int)) W)
  have wm:IntKind.i64.wrap (8 * (m:Int)) = 8 * (m:Int):=by rw [IntKind.wrap_i64];omega
  have H:=hid h;clear h
  unfold LoadHaPost
  have lv:∀ y,loadV i.op y = if i.op ≤ 14 then sextI y (8 * (m:Int)) else y:=fun y=>by unfold loadV;rw [hmm]
  simp only [lv]
  rw [haa,← hmm]
  simp only [haa] at CA
  rw [← hmm] at CB
  clear hm hR hmm hmw haa lv hab
  have B0:=hid b0;clear b0
  have B1:=hid b1;clear b1
  have WM:=hid wm;clear wm
  obtain ⟨op,rd,r1,r2,im,od,sz⟩:=i
  simp only at ho hd hr CB CA CP
  simp only [Int.toNat_natCast]
  obtain ⟨v,hv⟩:∃ v,v = if op ≤ 14 then sextI (numAt M a m) (8 * (m:Int)) else numAt M a m:=⟨_,rfl⟩
  rw [← hv]
  have HV:=hid hv;clear hv
  unfold addr0 stopV faultV at *
  go_enter Tryz.func83,Tryz.ntmps83
  go_upto_region 1 with (fail)
  generalize (w.alloc (.cells (Td.I7 op rd r1 r2 im od sz) 38)).alloc (.cells #[.int .i64 0,.int .i64 0,.int .u64 0] 33) = W at *
  obtain ⟨d0,d1,d2,d3,d4,d5,d6⟩:=seven_at B0.out
  go_upto_region 2 with (go_at_call 126;with_reducible refine (CB.out _).mono ?_;rintro e w1 ⟨rfl,rfl⟩)
  go_wp2_with fail
  with_reducible refine (CA.out _ K0.out).mono ?_
  rintro e w1 ⟨rfl,k1⟩
  clear d0 d1 d2 d3 d4 d5 d6
  have K1:=hid (K0.out.trans k1)
  have B0':=hid (k1.at_ B0.out)
  have B1':=hid (k1.at_ B1.out)
  clear k1 K0 B0 B1
  go_wp2_with fail
  with_reducible refine (CL.out _ K1.out).mono ?_
  rintro e w2 ⟨y,k,x,rfl,hh,k2⟩
  have K2:=hid (K1.out.trans k2)
  have B0:=hid (k2.at_ B0'.out)
  have B1:=hid (k2.at_ B1'.out)
  clear k2 K1 B0' B1'
  unfold faultV
  have hlt:=H.out.lt
  rcases hh with ⟨rfl,rfl,h1,h2,h3,h4⟩ | ⟨rfl,rfl,rfl,h4⟩
  · have HH:Hid (FirstAt L 1 a m x):=hid ⟨h1,h2,h3,h4⟩
    clear h1 h2 h3 h4
    go_wp2_with fail
    with_reducible refine (CF.out 1 x _).mono ?_
    rintro e w3 ⟨rfl,k3⟩
    have K3:=hid ((K2.out.alloc (.cells #[.int .i64 1,.int .u64 x] 31)).trans k3)
    have C1:=hid (((Bl.new w2 (.cells #[.int .i64 1,.int .u64 x] 31)).trans k3).at_ B1.out)
    clear k3
    obtain ⟨d0,d1,d2⟩:=three_at C1.out
    have z0:=free_at C1.out
    go_wp2_with fail
    (try simp only [Exit.inBlock,Exit.then])
    have s3:=set3 (.int .i64 4) (.int .i64 1) (.int .u64 x) C1.out
    refine bodyPost_ret (results_cell_row rfl _ _ (w.heap.size + 1) 33 _ (0,0) _ rfl s3 Tryz.underlying33 rfl (by kernel_rfl)) rfl ?_
    refine Or.inl ⟨x,HH.out,rfl,?_⟩
    exact ((((Fr.of_bl (S:=fun _=>False) K3.out).newCellC (p:=⟨w.heap.size + 1,0,none⟩) (by simp) _).newCellC (p:=⟨w.heap.size + 1,1,none⟩) (by simp) _).newCellC (p:=⟨w.heap.size + 1,2,none⟩) (by simp) _).bl (fun _ _ e=>e)
  · have HH:Hid (AllCan L 1 a m):=hid h4;clear h4
    go_upto_region 5 with (fail)
    have K3:=hid (K2.out.alloc (.cells #[.int .i64 0,.int .u64 0] 31))
    have C0:=hid ((Bl.new w2 (.cells #[.int .i64 0,.int .u64 0] 31)).at_ B0.out)
    have C1:=hid ((Bl.new w2 (.cells #[.int .i64 0,.int .u64 0] 31)).at_ B1.out)
    generalize w2.alloc (.cells #[.int .i64 0,.int .u64 0] 31) = W3 at *
    clear K2 B0 B1
    obtain ⟨d0,d1,d2,d3,d4,d5,d6⟩:=seven_at C0.out
    clear d2 d3 d4 d5 d6
    have wm:=WM.out
    by_cases h14:op ≤ 14
    · have hv:=HV.out
      rw [if_pos h14] at hv
      have HV2:=hid hv;clear hv HV
      go_wp2_with fail
      with_reducible refine (CS.out _ _).mono ?_
      rintro e w3 ⟨rfl,rfl⟩
      go_wp2_with fail
      rw [← HV2.out]
      with_reducible refine (CP.out _ _ (H.out.bl K3.out)).mono ?_
      rintro e w4 ⟨rfl,h4,f4,s4⟩
      have G1:=hid (f4.at_ C1.out (fun e=>by have e':w.heap.size + 1 = b:=e;omega))
      have H4:=hid h4;clear h4
      have F4:=hid ((Fr.of_bl (S:=only b) K3.out).trans f4);clear f4
      clear d0 d1 CP
      obtain ⟨d0,d1,d2⟩:=three_at G1.out
      have z0:=free_at G1.out
      go_wp2_with fail
      (try simp only [Exit.inBlock,Exit.then])
      have s3:=set3 (.int .i64 0) (.int .i64 0) (.int .u64 0) G1.out
      refine bodyPost_ret (results_cell_row rfl _ _ (w.heap.size + 1) 33 _ (0,0) _ rfl s3 Tryz.underlying33 rfl (by kernel_rfl)) rfl ?_
      have f5:Fr (only (w.heap.size + 1)) w4 (((w4.setCell ⟨w.heap.size + 1,0,none⟩ (.int .i64 0)).setCell ⟨w.heap.size + 1,1,none⟩ (.int .i64 0)).setCell ⟨w.heap.size + 1,2,none⟩ (.int .u64 0)):=((Fr.set (S:=only (w.heap.size + 1)) (p:=⟨w.heap.size + 1,0,none⟩) rfl _).trans (Fr.set (S:=only (w.heap.size + 1)) (p:=⟨w.heap.size + 1,1,none⟩) rfl _)).trans (Fr.set (S:=only (w.heap.size + 1)) (p:=⟨w.heap.size + 1,2,none⟩) rfl _)
      refine Or.inr ⟨HH.out,rfl,H4.out.fr f5 (fun e=>by have e':b = w.heap.size + 1:=e;omega),?_⟩
      exact ((F4.out.newCellC (p:=⟨w.heap.size + 1,0,none⟩) (by simp) _).newCellC (p:=⟨w.heap.size + 1,1,none⟩) (by simp) _).newCellC (p:=⟨w.heap.size + 1,2,none⟩) (by simp) _
    · have hv:=HV.out
      rw [if_neg h14] at hv
      have HV2:=hid hv;clear hv HV
      go_wp2_with fail
      rw [← HV2.out]
      with_reducible refine (CP.out _ _ (H.out.bl K3.out)).mono ?_
      rintro e w4 ⟨rfl,h4,f4,s4⟩
      have G1:=hid (f4.at_ C1.out (fun e=>by have e':w.heap.size + 1 = b:=e;omega))
      have H4:=hid h4;clear h4
      have F4:=hid ((Fr.of_bl (S:=only b) K3.out).trans f4);clear f4
      clear d0 d1 CP
      obtain ⟨d0,d1,d2⟩:=three_at G1.out
      have z0:=free_at G1.out
      go_wp2_with fail
      (try simp only [Exit.inBlock,Exit.then])
      have s3:=set3 (.int .i64 0) (.int .i64 0) (.int .u64 0) G1.out
      refine bodyPost_ret (results_cell_row rfl _ _ (w.heap.size + 1) 33 _ (0,0) _ rfl s3 Tryz.underlying33 rfl (by kernel_rfl)) rfl ?_
      have f5:Fr (only (w.heap.size + 1)) w4 (((w4.setCell ⟨w.heap.size + 1,0,none⟩ (.int .i64 0)).setCell ⟨w.heap.size + 1,1,none⟩ (.int .i64 0)).setCell ⟨w.heap.size + 1,2,none⟩ (.int .u64 0)):=((Fr.set (S:=only (w.heap.size + 1)) (p:=⟨w.heap.size + 1,0,none⟩) rfl _).trans (Fr.set (S:=only (w.heap.size + 1)) (p:=⟨w.heap.size + 1,1,none⟩) rfl _)).trans (Fr.set (S:=only (w.heap.size + 1)) (p:=⟨w.heap.size + 1,2,none⟩) rfl _)
      refine Or.inr ⟨HH.out,rfl,H4.out.fr f5 (fun e=>by have e':b = w.heap.size + 1:=e;omega),?_⟩
      exact ((F4.out.newCellC (p:=⟨w.heap.size + 1,0,none⟩) (by simp) _).newCellC (p:=⟨w.heap.size + 1,1,none⟩) (by simp) _).newCellC (p:=⟨w.heap.size + 1,2,none⟩) (by simp) _
end
end Go.Proofs.YtlhpodholnfppaaGreatDoor

namespace Go.Proofs.YtlhpodholnfppaaGreatDoor
open Go.RowKit
set_option maxRecDepth 100000
section
variable {T:Nat → Prop} {w:World} {b sb n:Nat} {pc ha hn:Int} {xs:List Int} {L:List Rg} {M st:Nat → Int} {mo ba en:Int}
def StoreHaPost (T:Nat → Prop) (w:World) (b sb n:Nat) (pc:Int) (xs:List Int) (ha hn:Int) (L:List Rg) (M st:Nat → Int) (mo ba en:Int) (i:Td.Ins) (e:Ending) (w':World):Prop:=
  (∃ z,FirstAt L 2 (adr xs i) (swid i.op) z∧e = .returned (stopV 4 2 z)∧Bl w w') ∨
  (AllCan L 2 (adr xs i) (swid i.op)∧e = .returned (stopV 0 0 0)∧(∃ st',Grow M (lay M (adr xs i).toNat (putB (rx xs i.r2) (swid i.op))) st st'∧MS T w' sb (n + 9) L (lay M (adr xs i).toNat (putB (rx xs i.r2) (swid i.op))) st' mo ba en)∧Fr T w w')
theorem keepC8 {w8 w9:World} {g b s:Nat} {a0 a1 a2 a3 a4 a5 a6 y:Value} (h:w8.cell? ⟨g,0,none⟩ = some a0∧w8.cell? ⟨g,1,none⟩ = some a1∧w8.cell? ⟨g,2,none⟩ = some a2∧w8.cell? ⟨g,3,none⟩ = some a3∧w8.cell? ⟨g,4,none⟩ = some a4∧w8.cell? ⟨g,5,none⟩ = some a5∧w8.cell? ⟨g,6,none⟩ = some a6∧w8.cell? ⟨b,s,none⟩ = some y) (k:Bl w8 w9) :
    w9.cell? ⟨g,0,none⟩ = some a0∧w9.cell? ⟨g,1,none⟩ = some a1∧w9.cell? ⟨g,2,none⟩ = some a2∧w9.cell? ⟨g,3,none⟩ = some a3∧w9.cell? ⟨g,4,none⟩ = some a4∧w9.cell? ⟨g,5,none⟩ = some a5∧w9.cell? ⟨g,6,none⟩ = some a6∧w9.cell? ⟨b,s,none⟩ = some y:=
  ⟨k.cell' h.1,k.cell' h.2.1,k.cell' h.2.2.1,k.cell' h.2.2.2.1,k.cell' h.2.2.2.2.1,k.cell' h.2.2.2.2.2.1,k.cell' h.2.2.2.2.2.2.1,k.cell' h.2.2.2.2.2.2.2⟩
theorem cell_fr {U:Nat → Prop} {w8 w9:World} {p:Addr} {v:Value} (h:w8.cell? p = some v) (k:Fr U w8 w9) (hn':¬ U p.block):w9.cell? p = some v:=by
  rw [World.cell?_of_block (w:=w8) (k.block _ (World.block_lt_of_cell? w8 _ h) hn')];exact h
theorem keepF8 {U:Nat → Prop} {w8 w9:World} {g b s:Nat} {a0 a1 a2 a3 a4 a5 a6 y:Value} (h:w8.cell? ⟨g,0,none⟩ = some a0∧w8.cell? ⟨g,1,none⟩ = some a1∧w8.cell? ⟨g,2,none⟩ = some a2∧w8.cell? ⟨g,3,none⟩ = some a3∧w8.cell? ⟨g,4,none⟩ = some a4∧w8.cell? ⟨g,5,none⟩ = some a5∧w8.cell? ⟨g,6,none⟩ = some a6∧w8.cell? ⟨b,s,none⟩ = some y) (k:Fr U w8 w9) (h1:¬ U g) (h2:¬ U b) :
    w9.cell? ⟨g,0,none⟩ = some a0∧w9.cell? ⟨g,1,none⟩ = some a1∧w9.cell? ⟨g,2,none⟩ = some a2∧w9.cell? ⟨g,3,none⟩ = some a3∧w9.cell? ⟨g,4,none⟩ = some a4∧w9.cell? ⟨g,5,none⟩ = some a5∧w9.cell? ⟨g,6,none⟩ = some a6∧w9.cell? ⟨b,s,none⟩ = some y:=
  ⟨cell_fr h.1 k h1,cell_fr h.2.1 k h1,cell_fr h.2.2.1 k h1,cell_fr h.2.2.2.1 k h1,cell_fr h.2.2.2.2.1 k h1,cell_fr h.2.2.2.2.2.1 k h1,cell_fr h.2.2.2.2.2.2.1 k h1,cell_fr h.2.2.2.2.2.2.2 k h2⟩
theorem cell_set2 {w8:World} {p:Addr} {v u z:Value} {f:Nat} (h:w8.cell? p = some v) (hn':p.block ≠ f):((w8.setCell ⟨f,0,none⟩ u).setCell ⟨f,1,none⟩ z).cell? p = some v:=
  cell_fr (U:=only f) h ((Fr.set (S:=only f) (p:=⟨f,0,none⟩) rfl _).trans (Fr.set (S:=only f) (p:=⟨f,1,none⟩) rfl _)) hn'
theorem keepT8 {w8:World} {f g b s:Nat} {u z:Value} {a0 a1 a2 a3 a4 a5 a6 y:Value} (h:w8.cell? ⟨g,0,none⟩ = some a0∧w8.cell? ⟨g,1,none⟩ = some a1∧w8.cell? ⟨g,2,none⟩ = some a2∧w8.cell? ⟨g,3,none⟩ = some a3∧w8.cell? ⟨g,4,none⟩ = some a4∧w8.cell? ⟨g,5,none⟩ = some a5∧w8.cell? ⟨g,6,none⟩ = some a6∧w8.cell? ⟨b,s,none⟩ = some y) (h1:g ≠ f) (h2:b ≠ f) :
    ((w8.setCell ⟨f,0,none⟩ u).setCell ⟨f,1,none⟩ z).cell? ⟨g,0,none⟩ = some a0∧((w8.setCell ⟨f,0,none⟩ u).setCell ⟨f,1,none⟩ z).cell? ⟨g,1,none⟩ = some a1∧((w8.setCell ⟨f,0,none⟩ u).setCell ⟨f,1,none⟩ z).cell? ⟨g,2,none⟩ = some a2∧((w8.setCell ⟨f,0,none⟩ u).setCell ⟨f,1,none⟩ z).cell? ⟨g,3,none⟩ = some a3∧((w8.setCell ⟨f,0,none⟩ u).setCell ⟨f,1,none⟩ z).cell? ⟨g,4,none⟩ = some a4∧((w8.setCell ⟨f,0,none⟩ u).setCell ⟨f,1,none⟩ z).cell? ⟨g,5,none⟩ = some a5∧((w8.setCell ⟨f,0,none⟩ u).setCell ⟨f,1,none⟩ z).cell? ⟨g,6,none⟩ = some a6∧((w8.setCell ⟨f,0,none⟩ u).setCell ⟨f,1,none⟩ z).cell? ⟨b,s,none⟩ = some y:=
  ⟨cell_set2 h.1 h1,cell_set2 h.2.1 h1,cell_set2 h.2.2.1 h1,cell_set2 h.2.2.2.1 h1,cell_set2 h.2.2.2.2.1 h1,cell_set2 h.2.2.2.2.2.1 h1,cell_set2 h.2.2.2.2.2.2.1 h1,cell_set2 h.2.2.2.2.2.2.2 h2⟩
theorem gap_no {T:Nat → Prop} {lo hi g:Nat} (h:g < hi) (h':lo ≤ g):¬ gap T lo hi g:=fun e=>e.2 ⟨h',h⟩
theorem gap_not {T:Nat → Prop} {lo hi g:Nat} (h:¬ T g):¬ gap T lo hi g:=fun e=>h e.1
theorem storeM_fr {T:Nat → Prop} {V w4:World} {sb n:Nat} {L:List Rg} {M st:Nat → Int} {mo ba en:Int} {a m:Nat} {x k y:Int} (hs:(k = 2∧(a:Int) ≤ y∧y < a + m∧¬ Can L 2 y∧(∀ z,(a:Int) ≤ z → z < y → Can L 2 z)∧Bl V w4) ∨
   (k = 0∧y = 0∧(∀ z,(a:Int) ≤ z → z < a + m → Can L 2 z)∧∃ st',MS T w4 sb (n + 9) L (lay M a (putB x m)) st' mo ba en∧Rise st st' (fun p=>∃ x,a ≤ x∧x < a + m∧p = x / 4096)∧Fr T V w4)):Fr T V w4:=by
  rcases hs with h | h
  · exact Fr.of_bl h.2.2.2.2.2
  · obtain ⟨_,_,_,_,_,_,h⟩:=h;exact h
def StMout (T:Nat → Prop) (w Z:World) (sb n:Nat) (L:List Rg) (M st:Nat → Int) (mo ba en:Int) (a m:Nat) (x k y:Int):Prop:=
  (k = 2∧FirstAt L 2 a m y∧Bl w Z) ∨ (k = 0∧y = 0∧AllCan L 2 a m∧(∃ st' hi,Grow M (lay M a (putB x m)) st st'∧MS (gap T w.heap.size hi) Z sb (n + 9) L (lay M a (putB x m)) st' mo ba en∧w.heap.size + 1 < hi)∧Fr T w Z)
theorem storeM_finA {T:Nat → Prop} {w V w4:World} {sb n:Nat} {L:List Rg} {M st:Nat → Int} {mo ba en:Int} {a m:Nat} {x k y:Int} {tr:TypeId} {r:Array Value} (kV:Bl w V) (hs:(k = 2∧(a:Int) ≤ y∧y < a + m∧¬ Can L 2 y∧(∀ z,(a:Int) ≤ z → z < y → Can L 2 z)∧Bl V w4) ∨
   (k = 0∧y = 0∧(∀ z,(a:Int) ≤ z → z < a + m → Can L 2 z)∧∃ st',MS (gap T w.heap.size V.heap.size) w4 sb (n + 9) L (lay M a (putB x m)) st' mo ba en∧Rise st st' (fun p=>∃ x,a ≤ x∧x < a + m∧p = x / 4096)∧Fr (gap T w.heap.size V.heap.size) V w4))
    (hQ:w4.heap[w.heap.size + 1]? = some (.cells r tr (0,0))) (hlt:w.heap.size + 1 < V.heap.size) :
    (w4.alloc (.cells #[.int .i64 k,.int .u64 y] 31)).heap[w4.heap.size]? = some (.cells #[.int .i64 k,.int .u64 y] 31 (0,0))∧(w4.alloc (.cells #[.int .i64 k,.int .u64 y] 31)).heap[w.heap.size + 1]? = some (.cells r tr (0,0)) ∧
    StMout T w (w4.alloc (.cells #[.int .i64 k,.int .u64 y] 31)) sb n L M st mo ba en a m x k y:=by
  refine ⟨heap_alloc_new _ _,(Bl.new _ _).at_ hQ,?_⟩
  rcases hs with ⟨rfl,h1,h2,h3,h4,h5⟩ | ⟨rfl,rfl,h1,st',h2,hg,h3⟩
  · exact .inl ⟨rfl,⟨h1,h2,h3,h4⟩,(kV.trans h5).alloc _⟩
  · exact .inr ⟨rfl,rfl,h1,⟨st',V.heap.size,grow_lay hg,h2.bl (Bl.new _ _),hlt⟩,((Fr.of_bl kV).trans h3.ungap).trans (Fr.of_bl (Bl.new _ _))⟩
theorem storeM_finB {T:Nat → Prop} {w V w4:World} {sb n f:Nat} {L:List Rg} {M st:Nat → Int} {mo ba en:Int} {a m:Nat} {x k y:Int} {tr:TypeId} {r:Array Value} {u v:Value} (kV:Bl w V) (hs:(k = 2∧(a:Int) ≤ y∧y < a + m∧¬ Can L 2 y∧(∀ z,(a:Int) ≤ z → z < y → Can L 2 z)∧Bl V w4) ∨
   (k = 0∧y = 0∧(∀ z,(a:Int) ≤ z → z < a + m → Can L 2 z)∧∃ st',MS (gap T w.heap.size V.heap.size) w4 sb (n + 9) L (lay M a (putB x m)) st' mo ba en∧Rise st st' (fun p=>∃ x,a ≤ x∧x < a + m∧p = x / 4096)∧Fr (gap T w.heap.size V.heap.size) V w4))
    (hF:w4.heap[f]? = some (.cells #[u,v] 31 (0,0))) (hQ:w4.heap[w.heap.size + 1]? = some (.cells r tr (0,0))) (hf:w.heap.size ≤ f) (hf2:f < V.heap.size) (hne:w.heap.size + 1 ≠ f) (hlt:w.heap.size + 1 < V.heap.size) :
    ((w4.setCell ⟨f,0,none⟩ (.int .i64 k)).setCell ⟨f,1,none⟩ (.int .u64 y)).heap[f]? = some (.cells #[.int .i64 k,.int .u64 y] 31 (0,0))∧((w4.setCell ⟨f,0,none⟩ (.int .i64 k)).setCell ⟨f,1,none⟩ (.int .u64 y)).heap[w.heap.size + 1]? = some (.cells r tr (0,0)) ∧
    StMout T w ((w4.setCell ⟨f,0,none⟩ (.int .i64 k)).setCell ⟨f,1,none⟩ (.int .u64 y)) sb n L M st mo ba en a m x k y:=by
  have f2:Fr (only f) w4 ((w4.setCell ⟨f,0,none⟩ (.int .i64 k)).setCell ⟨f,1,none⟩ (.int .u64 y)):=(Fr.set (S:=only f) (p:=⟨f,0,none⟩) rfl _).trans (Fr.set (S:=only f) (p:=⟨f,1,none⟩) rfl _)
  refine ⟨set2 _ _ hF,f2.at_ hQ hne,?_⟩
  rcases hs with ⟨rfl,h1,h2,h3,h4,h5⟩ | ⟨rfl,rfl,h1,st',h2,hg,h3⟩
  · exact .inl ⟨rfl,⟨h1,h2,h3,h4⟩,(((Fr.of_bl (S:=fun _=>False) (kV.trans h5)).newCellC (p:=⟨f,0,none⟩) hf _).newCellC (p:=⟨f,1,none⟩) hf _).bl (fun _ _ e=>e)⟩
  · refine .inr ⟨rfl,rfl,h1,⟨st',V.heap.size,grow_lay hg,h2.kept f2 (fun b e e2=>e.2 (by have e3:b = f:=e2;omega)),hlt⟩,?_⟩
    exact ((((Fr.of_bl kV).trans h3.ungap).newCellC (p:=⟨f,0,none⟩) hf _).newCellC (p:=⟨f,1,none⟩) hf _)
theorem haStore_any (h:StAt w b pc xs ha hn) (hm:MS T w sb n L M st mo ba en) (hTb:¬ T b) (hn0:n < 80000000) (hT:∀ b,w.heap.size ≤ b → T b) (i:Td.Ins) (ho:18 ≤ i.op∧i.op ≤ 21) (hr:0 ≤ i.r1∧i.r1 < 32) (hr2:0 ≤ i.r2∧i.r2 < 32) :
    Calls Tryz.prog 85 #[addr0 b,addr0 sb,.agg i.cells] w (StoreHaPost T w b sb n pc xs ha hn L M st mo ba en i):=by
  have K0:=hid ((Bl.new w (.cells i.cells 38)).alloc (.cells #[.int .i64 0,.int .i64 0,.int .u64 0] 33))
  obtain ⟨b0,b1⟩:=two_newD w (.cells i.cells 38) (.cells #[.int .i64 0,.int .i64 0,.int .u64 0] 33)
  obtain ⟨m,hmm⟩:∃ m:Nat,m = swid i.op:=⟨_,rfl⟩
  have hmw:=swid_is i.op
  obtain ⟨a,haa⟩:=Int.eq_ofNat_of_zero_le (show 0 ≤ adr xs i from (wrap_bd _).1)
  have hab:a < 18446744073709551616:=by have:=(wrap_bd (rx xs i.r1 + IntKind.u64.wrap i.im)).2;unfold adr at haa;omega
  have CB:=hid (fun W=>storeBytes_any i.op W ho)
  have CA:=hid (fun W (k:Bl w W)=>place_any (h.bl k) i hr)
  have CF:=hid (fun k x w=>hfaulty_any k x w)
  obtain ⟨x,hx⟩:∃ x,x = rx xs i.r2:=⟨_,rfl⟩
  have CS:=hid (fun W (k:Bl w W)=>mstore_any (hm.gap k w.heap.size W.heap.size (Nat.le_refl _)) a m x hab (by rw [hmm];exact hmw) hn0 (gap_new hT w.heap.size k.size))
  have H:=hid h;clear h
  have HT:=hid hT;clear hT
  have HTB:=hid hTb;clear hTb
  unfold StoreHaPost
  rw [haa,← hmm]
  simp only [haa] at CA
  rw [← hmm] at CB
  obtain ⟨s,hs⟩:=Int.eq_ofNat_of_zero_le hr2.1
  rw [hs] at hx hr2
  have hs':s < 32:=by omega
  clear hm hmm hmw haa hab hn0
  have B0:=hid b0;clear b0
  have B1:=hid b1;clear b1
  obtain ⟨op,rd,r1,r2,im,od,sz⟩:=i
  simp only at ho hr hr2 hs CB CA
  subst hs
  rw [← hx]
  simp only [Int.toNat_natCast]
  have HX:=hid hx;clear hx
  unfold addr0 stopV faultV at *
  go_enter Tryz.func85,Tryz.ntmps85
  go_upto_region 1 with (fail)
  generalize (w.alloc (.cells (Td.I7 op rd r1 s im od sz) 38)).alloc (.cells #[.int .i64 0,.int .i64 0,.int .u64 0] 33) = W at *
  have c8:=(H.out.bl K0.out).rx s hs'
  rw [← HX.out] at c8
  obtain ⟨d0,d1,d2,d3,d4,d5,d6⟩:=seven_at B0.out
  have HS:=hid (And.intro d0 (And.intro d1 (And.intro d2 (And.intro d3 (And.intro d4 (And.intro d5 (And.intro d6 c8)))))))
  clear d0 d1 d2 d3 d4 d5 d6 c8
  go_region_held3 (fun w'=>w'.cell? ⟨w.heap.size,0,none⟩ = some (.int .i64 op)∧w'.cell? ⟨w.heap.size,1,none⟩ = some (.int .i64 rd)∧w'.cell? ⟨w.heap.size,2,none⟩ = some (.int .i64 r1)∧w'.cell? ⟨w.heap.size,3,none⟩ = some (.int .i64 s)∧w'.cell? ⟨w.heap.size,4,none⟩ = some (.int .i64 im)∧w'.cell? ⟨w.heap.size,5,none⟩ = some (.int .i64 od)∧w'.cell? ⟨w.heap.size,6,none⟩ = some (.int .i64 sz)∧w'.cell? ⟨b,1 + s,none⟩ = some (.int .u64 x)) (first | assumption | exact HS.out | exact keepC8 HS.out ((Bl.refl W).drewN 1) | exact keepC8 (by assumption) (Bl.new _ _) | (refine keepT8 (by assumption) ?_ ?_ <;> (have h1:=lt_at P1.out;have h2:=lt_at B1.out;have h3:=H.out.lt;omega))) (first
    | (go_at_call 79;with_reducible refine (CA.out W.drew K0.out.drew).mono ?_;rintro e w3 ⟨rfl,k3⟩;have hkk:=keepC8 (keepC8 HS.out (Bl.refl W).drew) k3;have P1:=hid (k3.at_ (drew_at B1.out));have K3:=hid (K0.out.drew.trans k3))
    | (go_at_call 79;with_reducible refine (CA.out (W.alloc (.cells #[.int .i64 0,.int .u64 0] 31)).drew (K0.out.alloc _).drew).mono ?_;rintro e w3 ⟨rfl,k3⟩;have hkk:=keepC8 (keepC8 HS.out (Bl.new W (.cells #[.int .i64 0,.int .u64 0] 31)).drew) k3;have P1:=hid (k3.at_ (drew_at ((Bl.new W (.cells #[.int .i64 0,.int .u64 0] 31)).at_ B1.out)));have FB:=hid (k3.at_ (drew_at (heap_alloc_new W (.cells #[.int .i64 0,.int .u64 0] 31))));have K3:=hid ((K0.out.alloc _).drew.trans k3))
    | (go_at_call 131;with_reducible refine (CB.out _).mono ?_;rintro e w3' ⟨rfl,rfl⟩)
    | (go_at_call 130;with_reducible refine (CS.out (w3.alloc (.cells #[.int .i64 0,.int .u64 0] 31)) (K3.out.alloc _)).mono ?_;rintro e w4 hh;unfold StoreMPost at hh;obtain ⟨k,y,rfl,hs⟩:=hh;have FR:=hid (storeM_fr hs);have hkk3:=keepC8 hkk (Bl.new w3 (.cells #[.int .i64 0,.int .u64 0] 31));have hkk2:=keepF8 hkk3 FR.out (gap_no (World.block_lt_of_cell? _ _ hkk3.1) (Nat.le_refl _)) (gap_not HTB.out);have Q1:=hid (FR.out.at_ ((Bl.new w3 (.cells #[.int .i64 0,.int .u64 0] 31)).at_ P1.out) (gap_no (lt_at ((Bl.new w3 (.cells #[.int .i64 0,.int .u64 0] 31)).at_ P1.out)) (Nat.le_succ _)));have FQ:=hid (FR.out.at_ (heap_alloc_new w3 (.cells #[.int .i64 0,.int .u64 0] 31)) (gap_no (lt_at (heap_alloc_new w3 (.cells #[.int .i64 0,.int .u64 0] 31))) (K3.out.size)));obtain ⟨c0,c1,g0,g1⟩:=row2 FQ.out;(try unfold faultV))
    | (go_at_call 130;with_reducible refine (CS.out w3 K3.out).mono ?_;rintro e w4 hh;unfold StoreMPost at hh;obtain ⟨k,y,rfl,hs⟩:=hh;have FR:=hid (storeM_fr hs);have hkk2:=keepF8 hkk FR.out (gap_no (World.block_lt_of_cell? w3 _ hkk.1) (Nat.le_refl _)) (gap_not HTB.out);have Q1:=hid (FR.out.at_ P1.out (gap_no (lt_at P1.out) (Nat.le_succ _)));have FQ:=hid (FR.out.at_ FB.out (gap_no (lt_at FB.out) (K0.out.size)));obtain ⟨c0,c1,g0,g1⟩:=row2 FQ.out;(try unfold faultV))
    | (go_at_call 130;with_reducible refine (CS.out w3 K3.out).mono ?_;rintro e w4 hh;unfold StoreMPost at hh;obtain ⟨k,y,rfl,hs⟩:=hh;have FR:=hid (storeM_fr hs);have hkk2:=keepF8 hkk FR.out (gap_no (World.block_lt_of_cell? w3 _ hkk.1) (Nat.le_refl _)) (gap_not HTB.out);have Q1:=hid (FR.out.at_ P1.out (gap_no (lt_at P1.out) (Nat.le_succ _)));(try unfold faultV)))
  · have hz:=storeM_finA K3.out hs Q1.out (lt_at P1.out)
    obtain ⟨z1,z2,z3⟩:=hz
    generalize w4.alloc (.cells #[.int .i64 k,.int .u64 y] 31) = Z at *
    clear hkk CA CB CS HS FR Q1 hkk2 P1 K3
    have Z2:=hid z2;clear z2
    obtain ⟨c0,c1,g0,g1⟩:=row2 z1
    have hfb:=lt_at Z2.out
    rcases z3 with ⟨rfl,hf,k4⟩ | ⟨rfl,rfl,hc,hms,hfr⟩
    · have HF:=hid hf;clear hf
      have K4:=hid k4;clear k4
      (try simp only [Exit.inBlock,Exit.then])
      go_wp2_with fail
      with_reducible refine (CF.out 2 y _).mono ?_
      rintro e w5 ⟨rfl,k5⟩
      have R1:=hid (k5.at_ Z2.out)
      have K5:=hid (K4.out.trans k5)
      clear k5
      obtain ⟨d0,d1,d2⟩:=three_at R1.out
      have z0:=free_at R1.out
      go_wp2_with fail
      (try simp only [Exit.inBlock,Exit.then])
      refine bodyPost_ret (results_cell_row rfl _ _ (w.heap.size + 1) 33 _ (0,0) _ rfl (set3 (.int .i64 4) (.int .i64 2) (.int .u64 y) R1.out) Tryz.underlying33 rfl (by kernel_rfl)) rfl ?_
      exact Or.inl ⟨y,HF.out,rfl,((((Fr.of_bl (S:=fun _=>False) K5.out).newCellC (p:=⟨w.heap.size + 1,0,none⟩) (by simp) _).newCellC (p:=⟨w.heap.size + 1,1,none⟩) (by simp) _).newCellC (p:=⟨w.heap.size + 1,2,none⟩) (by simp) _).bl (fun _ _ e=>e)⟩
    · have HC:=hid hc;clear hc
      have HMS:=hid hms;clear hms
      have HFR:=hid hfr;clear hfr
      obtain ⟨d0,d1,d2⟩:=three_at Z2.out
      have z0:=free_at Z2.out
      (try simp only [Exit.inBlock,Exit.then])
      go_wp2_with fail
      (try simp only [Exit.inBlock,Exit.then])
      refine bodyPost_ret (results_cell_row rfl _ _ (w.heap.size + 1) 33 _ (0,0) _ rfl (set3 (.int .i64 0) (.int .i64 0) (.int .u64 0) Z2.out) Tryz.underlying33 rfl (by kernel_rfl)) rfl ?_
      obtain ⟨st',hi,hg,q1,q2⟩:=HMS.out
      refine Or.inr ⟨HC.out,rfl,⟨st',hg,(q1.kept (((Fr.set (S:=only (w.heap.size + 1)) (p:=⟨w.heap.size + 1,0,none⟩) rfl _).trans (Fr.set (S:=only (w.heap.size + 1)) (p:=⟨w.heap.size + 1,1,none⟩) rfl _)).trans (Fr.set (S:=only (w.heap.size + 1)) (p:=⟨w.heap.size + 1,2,none⟩) rfl _)) (fun b e e2=>e.2 (by have e3:b = w.heap.size + 1:=e2;omega))).ungap⟩,?_⟩
      exact ((HFR.out.newCellC (p:=⟨w.heap.size + 1,0,none⟩) (by simp) _).newCellC (p:=⟨w.heap.size + 1,1,none⟩) (by simp) _).newCellC (p:=⟨w.heap.size + 1,2,none⟩) (by simp) _
  · have hz:=storeM_finB (K3.out.alloc (.cells #[.int .i64 0,.int .u64 0] 31)) hs FQ.out Q1.out K3.out.size (lt_at (heap_alloc_new w3 (.cells #[.int .i64 0,.int .u64 0] 31))) (by have:=lt_at P1.out;omega) (by have:=lt_at ((Bl.new w3 (.cells #[.int .i64 0,.int .u64 0] 31)).at_ P1.out);omega)
    obtain ⟨z1,z2,z3⟩:=hz
    generalize (w4.setCell ⟨w3.heap.size,0,none⟩ (.int .i64 k)).setCell ⟨w3.heap.size,1,none⟩ (.int .u64 y) = Z at *
    clear hkk CA CB CS HS FR Q1 hkk2 P1 K3
    have Z2:=hid z2;clear z2
    obtain ⟨c0,c1,g0,g1⟩:=row2 z1
    have hfb:=lt_at Z2.out
    rcases z3 with ⟨rfl,hf,k4⟩ | ⟨rfl,rfl,hc,hms,hfr⟩
    · have HF:=hid hf;clear hf
      have K4:=hid k4;clear k4
      (try simp only [Exit.inBlock,Exit.then])
      go_wp2_with fail
      with_reducible refine (CF.out 2 y _).mono ?_
      rintro e w5 ⟨rfl,k5⟩
      have R1:=hid (k5.at_ Z2.out)
      have K5:=hid (K4.out.trans k5)
      clear k5
      obtain ⟨d0,d1,d2⟩:=three_at R1.out
      have z0:=free_at R1.out
      go_wp2_with fail
      (try simp only [Exit.inBlock,Exit.then])
      refine bodyPost_ret (results_cell_row rfl _ _ (w.heap.size + 1) 33 _ (0,0) _ rfl (set3 (.int .i64 4) (.int .i64 2) (.int .u64 y) R1.out) Tryz.underlying33 rfl (by kernel_rfl)) rfl ?_
      exact Or.inl ⟨y,HF.out,rfl,((((Fr.of_bl (S:=fun _=>False) K5.out).newCellC (p:=⟨w.heap.size + 1,0,none⟩) (by simp) _).newCellC (p:=⟨w.heap.size + 1,1,none⟩) (by simp) _).newCellC (p:=⟨w.heap.size + 1,2,none⟩) (by simp) _).bl (fun _ _ e=>e)⟩
    · have HC:=hid hc;clear hc
      have HMS:=hid hms;clear hms
      have HFR:=hid hfr;clear hfr
      obtain ⟨d0,d1,d2⟩:=three_at Z2.out
      have z0:=free_at Z2.out
      (try simp only [Exit.inBlock,Exit.then])
      go_wp2_with fail
      (try simp only [Exit.inBlock,Exit.then])
      refine bodyPost_ret (results_cell_row rfl _ _ (w.heap.size + 1) 33 _ (0,0) _ rfl (set3 (.int .i64 0) (.int .i64 0) (.int .u64 0) Z2.out) Tryz.underlying33 rfl (by kernel_rfl)) rfl ?_
      obtain ⟨st',hi,hg,q1,q2⟩:=HMS.out
      refine Or.inr ⟨HC.out,rfl,⟨st',hg,(q1.kept (((Fr.set (S:=only (w.heap.size + 1)) (p:=⟨w.heap.size + 1,0,none⟩) rfl _).trans (Fr.set (S:=only (w.heap.size + 1)) (p:=⟨w.heap.size + 1,1,none⟩) rfl _)).trans (Fr.set (S:=only (w.heap.size + 1)) (p:=⟨w.heap.size + 1,2,none⟩) rfl _)) (fun b e e2=>e.2 (by have e3:b = w.heap.size + 1:=e2;omega))).ungap⟩,?_⟩
      exact ((HFR.out.newCellC (p:=⟨w.heap.size + 1,0,none⟩) (by simp) _).newCellC (p:=⟨w.heap.size + 1,1,none⟩) (by simp) _).newCellC (p:=⟨w.heap.size + 1,2,none⟩) (by simp) _
  · have hz:=storeM_finB (K3.out.alloc (.cells #[.int .i64 0,.int .u64 0] 31)) hs FQ.out Q1.out K3.out.size (lt_at (heap_alloc_new w3 (.cells #[.int .i64 0,.int .u64 0] 31))) (by have:=lt_at P1.out;omega) (by have:=lt_at ((Bl.new w3 (.cells #[.int .i64 0,.int .u64 0] 31)).at_ P1.out);omega)
    obtain ⟨z1,z2,z3⟩:=hz
    generalize (w4.setCell ⟨w3.heap.size,0,none⟩ (.int .i64 k)).setCell ⟨w3.heap.size,1,none⟩ (.int .u64 y) = Z at *
    clear hkk CA CB CS HS FR Q1 hkk2 P1 K3
    have Z2:=hid z2;clear z2
    obtain ⟨c0,c1,g0,g1⟩:=row2 z1
    have hfb:=lt_at Z2.out
    rcases z3 with ⟨rfl,hf,k4⟩ | ⟨rfl,rfl,hc,hms,hfr⟩
    · have HF:=hid hf;clear hf
      have K4:=hid k4;clear k4
      (try simp only [Exit.inBlock,Exit.then])
      go_wp2_with fail
      with_reducible refine (CF.out 2 y _).mono ?_
      rintro e w5 ⟨rfl,k5⟩
      have R1:=hid (k5.at_ Z2.out)
      have K5:=hid (K4.out.trans k5)
      clear k5
      obtain ⟨d0,d1,d2⟩:=three_at R1.out
      have z0:=free_at R1.out
      go_wp2_with fail
      (try simp only [Exit.inBlock,Exit.then])
      refine bodyPost_ret (results_cell_row rfl _ _ (w.heap.size + 1) 33 _ (0,0) _ rfl (set3 (.int .i64 4) (.int .i64 2) (.int .u64 y) R1.out) Tryz.underlying33 rfl (by kernel_rfl)) rfl ?_
      exact Or.inl ⟨y,HF.out,rfl,((((Fr.of_bl (S:=fun _=>False) K5.out).newCellC (p:=⟨w.heap.size + 1,0,none⟩) (by simp) _).newCellC (p:=⟨w.heap.size + 1,1,none⟩) (by simp) _).newCellC (p:=⟨w.heap.size + 1,2,none⟩) (by simp) _).bl (fun _ _ e=>e)⟩
    · have HC:=hid hc;clear hc
      have HMS:=hid hms;clear hms
      have HFR:=hid hfr;clear hfr
      obtain ⟨d0,d1,d2⟩:=three_at Z2.out
      have z0:=free_at Z2.out
      (try simp only [Exit.inBlock,Exit.then])
      go_wp2_with fail
      (try simp only [Exit.inBlock,Exit.then])
      refine bodyPost_ret (results_cell_row rfl _ _ (w.heap.size + 1) 33 _ (0,0) _ rfl (set3 (.int .i64 0) (.int .i64 0) (.int .u64 0) Z2.out) Tryz.underlying33 rfl (by kernel_rfl)) rfl ?_
      obtain ⟨st',hi,hg,q1,q2⟩:=HMS.out
      refine Or.inr ⟨HC.out,rfl,⟨st',hg,(q1.kept (((Fr.set (S:=only (w.heap.size + 1)) (p:=⟨w.heap.size + 1,0,none⟩) rfl _).trans (Fr.set (S:=only (w.heap.size + 1)) (p:=⟨w.heap.size + 1,1,none⟩) rfl _)).trans (Fr.set (S:=only (w.heap.size + 1)) (p:=⟨w.heap.size + 1,2,none⟩) rfl _)) (fun b e e2=>e.2 (by have e3:b = w.heap.size + 1:=e2;omega))).ungap⟩,?_⟩
      exact ((HFR.out.newCellC (p:=⟨w.heap.size + 1,0,none⟩) (by simp) _).newCellC (p:=⟨w.heap.size + 1,1,none⟩) (by simp) _).newCellC (p:=⟨w.heap.size + 1,2,none⟩) (by simp) _
  · have hz:=storeM_finB K3.out hs FQ.out Q1.out K0.out.size (lt_at FB.out) (by have:=lt_at B1.out;omega) (lt_at P1.out)
    obtain ⟨z1,z2,z3⟩:=hz
    generalize (w4.setCell ⟨W.heap.size,0,none⟩ (.int .i64 k)).setCell ⟨W.heap.size,1,none⟩ (.int .u64 y) = Z at *
    clear hkk CA CB CS HS FR Q1 hkk2 P1 K3
    have Z2:=hid z2;clear z2
    obtain ⟨c0,c1,g0,g1⟩:=row2 z1
    have hfb:=lt_at Z2.out
    rcases z3 with ⟨rfl,hf,k4⟩ | ⟨rfl,rfl,hc,hms,hfr⟩
    · have HF:=hid hf;clear hf
      have K4:=hid k4;clear k4
      (try simp only [Exit.inBlock,Exit.then])
      go_wp2_with fail
      with_reducible refine (CF.out 2 y _).mono ?_
      rintro e w5 ⟨rfl,k5⟩
      have R1:=hid (k5.at_ Z2.out)
      have K5:=hid (K4.out.trans k5)
      clear k5
      obtain ⟨d0,d1,d2⟩:=three_at R1.out
      have z0:=free_at R1.out
      go_wp2_with fail
      (try simp only [Exit.inBlock,Exit.then])
      refine bodyPost_ret (results_cell_row rfl _ _ (w.heap.size + 1) 33 _ (0,0) _ rfl (set3 (.int .i64 4) (.int .i64 2) (.int .u64 y) R1.out) Tryz.underlying33 rfl (by kernel_rfl)) rfl ?_
      exact Or.inl ⟨y,HF.out,rfl,((((Fr.of_bl (S:=fun _=>False) K5.out).newCellC (p:=⟨w.heap.size + 1,0,none⟩) (by simp) _).newCellC (p:=⟨w.heap.size + 1,1,none⟩) (by simp) _).newCellC (p:=⟨w.heap.size + 1,2,none⟩) (by simp) _).bl (fun _ _ e=>e)⟩
    · have HC:=hid hc;clear hc
      have HMS:=hid hms;clear hms
      have HFR:=hid hfr;clear hfr
      obtain ⟨d0,d1,d2⟩:=three_at Z2.out
      have z0:=free_at Z2.out
      (try simp only [Exit.inBlock,Exit.then])
      go_wp2_with fail
      (try simp only [Exit.inBlock,Exit.then])
      refine bodyPost_ret (results_cell_row rfl _ _ (w.heap.size + 1) 33 _ (0,0) _ rfl (set3 (.int .i64 0) (.int .i64 0) (.int .u64 0) Z2.out) Tryz.underlying33 rfl (by kernel_rfl)) rfl ?_
      obtain ⟨st',hi,hg,q1,q2⟩:=HMS.out
      refine Or.inr ⟨HC.out,rfl,⟨st',hg,(q1.kept (((Fr.set (S:=only (w.heap.size + 1)) (p:=⟨w.heap.size + 1,0,none⟩) rfl _).trans (Fr.set (S:=only (w.heap.size + 1)) (p:=⟨w.heap.size + 1,1,none⟩) rfl _)).trans (Fr.set (S:=only (w.heap.size + 1)) (p:=⟨w.heap.size + 1,2,none⟩) rfl _)) (fun b e e2=>e.2 (by have e3:b = w.heap.size + 1:=e2;omega))).ungap⟩,?_⟩
      exact ((HFR.out.newCellC (p:=⟨w.heap.size + 1,0,none⟩) (by simp) _).newCellC (p:=⟨w.heap.size + 1,1,none⟩) (by simp) _).newCellC (p:=⟨w.heap.size + 1,2,none⟩) (by simp) _
end
end Go.Proofs.YtlhpodholnfppaaGreatDoor
