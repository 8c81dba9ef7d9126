/-
  A space of the reference: Lays whatever is mapped; Fetch.
  The reference's Instruction: what is at a place.
  The walk of CacheMany.
  Both spaces through each of the law's acts: first the program's, then the reference's.
-/
import Derived.Test.YtbngjbmfkekdnaaGreatDoorT9
import Derived.Test.YtbngjbmfkekdnaaGreatDoorT32
import Derived.Test.YtbngjbmfkekdnaaGreatDoorT24
import Derived.Test.YtbngjbmfkekdnaaGreatDoorT29
import Derived.Test.YtbngjbmfkekdnaaGreatDoorT10
import Derived.Test.YtbngjbmfkekdnaaGreatDoorT11
import Derived.Lib.Hide
set_option linter.unusedVariables false
set_option linter.unusedSimpArgs false
set_option maxHeartbeats 16000000
open Go.Lib (hid)
namespace Go.Proofs.YtbngjbmfkekdnaaGreatDoor
open Go.RowKit
set_option maxRecDepth 100000
section
variable {S:Nat → Prop} {mo b0 b1:Int} {w:World} {rb:Nat} {P:List Pg} {M:Nat → Int}
theorem rp_set_no (h:RP S w rb P M mo b0 b1) (a:Nat) (ha:a < 2 ^ 64) (c:Int) (hno:∀ q,¬ OnP P a q) :
    Calls Tryz.prog 34 #[addr0 rb,.int .u64 (a:Int),.int .u8 c] w fun e w'=>e = .returned (.tuple #[])∧Bl w w':=by
  have ca:=rp_at h.space h.pgs (by have:=h.few;omega) ((a:Int) / 4096)
  have CA:=hid ca;clear ca h
  have haI:(a:Int) ≤ 18446744073709551615:=by omega
  have haI0:(0:Int) ≤ (a:Int):=by omega
  have HNO:=hid hno;clear hno ha
  unfold addr0 at *
  go_enter Tryz.func34,Tryz.ntmps34
  go_wp2_with fail
  with_reducible refine CA.out.mono ?_
  rintro e w1 ⟨j,ok,rfl,hat,k⟩
  have K:=hid k;clear k
  rcases hat with ⟨rfl,x,hx,hn⟩ | ⟨rfl,hno⟩
  · exact absurd (at_on (List.mem_of_getElem? hx) hn) (HNO.out _)
  · clear hno
    go_wp2
    first | go_end0 | ((try simp only [Exit.inBlock,Exit.then]);refine bodyPost_ret (results_none rfl _ _ _) rfl ?_)
    exact ⟨rfl,K.out⟩
theorem rp_set_rel (h:RP S w rb P M mo b0 b1) (a:Nat) (xs:List Int) (k:Nat) {M0:Nat → Int} (hp:PutRel (regs P) M0 a xs k M) (hk:k < xs.length) (hb:∀ k,0 ≤ xs.getD k 0∧xs.getD k 0 ≤ 255) (z:Int) (hz:z = ((a + k:Nat):Int)) (hak:a + k < 2 ^ 64) :
    Calls Tryz.prog 34 #[addr0 rb,.int .u64 z,.int .u8 (xs.getD k 0)] w fun e w'=>e = .returned (.tuple #[])∧(∃ M',RP S w' rb P M' mo b0 b1∧PutRel (regs P) M0 a xs (k + 1) M')∧Fr S w w':=by
  subst hz
  have hr:=fun (x:Nat) (q:Int)=>(regs_in h.pgs (a:=(x:Int)) (q:=q))
  by_cases hon:∃ q,OnP P ((a + k:Nat):Int) q
  · refine (rp_set h (a + k) hak (xs.getD k 0) (hb k) hon).mono ?_
    rintro e w' ⟨rfl,h1,h2⟩
    refine ⟨rfl,⟨_,h1,fun x=>?_⟩,h2⟩
    simp only [upd]
    by_cases hx:x = a + k
    · subst hx
      rw [if_pos rfl]
      refine ⟨fun _=>by rw [Nat.add_sub_cancel_left],fun hn=>absurd ⟨by omega,by omega,?_⟩ hn⟩
      obtain ⟨q,hq⟩:=hon
      exact ⟨q,(hr _ _).2 hq⟩
    · rw [if_neg hx]
      exact ⟨fun hc=>(hp x).1 ⟨hc.1,by omega,hc.2.2⟩,fun hn=>(hp x).2 fun hc=>hn ⟨hc.1,by omega,hc.2.2⟩⟩
  · refine (rp_set_no h (a + k) hak (xs.getD k 0) (fun q hq=>hon ⟨q,hq⟩)).mono ?_
    rintro e w' ⟨rfl,k1⟩
    refine ⟨rfl,⟨M,h.bl k1,fun x=>?_⟩,Fr.of_bl k1⟩
    by_cases hx:x = a + k
    · subst hx
      refine ⟨fun hc=>?_,fun hn=>(hp _).2 fun hc=>by omega⟩
      obtain ⟨q,hq⟩:=hc.2.2
      exact absurd ⟨q,(hr _ _).1 hq⟩ hon
    · exact ⟨fun hc=>(hp x).1 ⟨hc.1,by omega,hc.2.2⟩,fun hn=>(hp x).2 fun hc=>hn ⟨hc.1,by omega,hc.2.2⟩⟩
theorem rp_lays_rel (h:RP S w rb P M mo b0 b1) (a:Nat) (A:Option Addr) (len cap:Nat) (xs:List Int) (hr:Rd w A xs) (hl:xs.length = len) (hb:∀ k,0 ≤ xs.getD k 0∧xs.getD k 0 ≤ 255) (hA:0 < len → ∀ ad,A = some ad → ¬ S ad.block)
    (hat:a + len ≤ 274877906944) (hlen:len ≤ 4194304) :
    Calls Tryz.prog 12 #[addr0 rb,.int .u64 (a:Int),.slice A len cap] w fun e w'=>e = .returned (.tuple #[])∧(∃ M',RP S w' rb P M' mo b0 b1∧PutRel (regs P) M a xs len M')∧Fr S w w':=by
  have HR:=hid hr;clear hr
  have HL:=hid hl;clear hl
  have HB:=hid hb;clear hb
  have HAA:=hid hA;clear hA
  have H:=hid h;clear h
  have CS:=hid (fun W M' (h:RP S W rb P M' mo b0 b1) (k:Nat) (hp:PutRel (regs P) M a xs k M') (hk:k < xs.length) (z:Int) (hz:z = ((a + k:Nat):Int)) (hak:a + k < 2 ^ 64)=>rp_set_rel h a xs k hp hk HB.out z hz hak)
  have hatI:(a:Int) + (len:Int) ≤ 274877906944:=by omega
  have haI0:(0:Int) ≤ (a:Int):=by omega
  have HAT:=hid hat;clear hat hatI haI0
  obtain ⟨Z,hZ⟩:∃ Z:Int,Z = a:=⟨_,rfl⟩
  rw [← hZ]
  have HZ:=hid hZ;clear hZ
  have hz0:0 ≤ Z:=by have:=HZ.out;omega
  have hz1:Z ≤ 274877906944:=by have:=HZ.out;have:=HAT.out;omega
  have hlenI:(len:Int) ≤ 4194304:=by omega
  unfold addr0 at *
  go_enter Tryz.func12,Tryz.ntmps12
  go_wp2_with fail
  go_loopw [6] (fun i wr=>∃ k:Nat,k ≤ len∧i = .int .i64 k∧(∃ M',RP S wr rb P M' mo b0 b1∧PutRel (regs P) M a xs k M')∧Fr S w wr) (fun i _=>len - (intOf i).toNat)
  case atStart=>exact ⟨0,by omega,rfl,⟨M,H.out,PutRel.zero _ _ _ _⟩,Fr.refl _ _⟩
  case round =>
    obtain ⟨k,hk,rfl,⟨M',hrp,hpr⟩,hfr⟩:=hrel
    have HRP:=hid hrp;clear hrp
    have HPR:=hid hpr;clear hpr
    have HFR:=hid hfr;clear hfr
    by_cases hlt:k < len
    · have hr2:=HR.out.fr HFR.out (fun h0=>HAA.out (by rw [← HL.out];exact h0))
      obtain ⟨b,off,hA,hcell⟩:=hr2.at_ k (by rw [HL.out];exact hlt)
      have hA2:=hA
      subst hA
      have cs:=fun (z:Int) (hz:z = ((a + k:Nat):Int))=>CS.out wr M' HRP.out k HPR.out (by rw [HL.out];exact hlt) z hz (by have:=HAT.out;omega)
      have hx:=HB.out k
      generalize xs.getD k 0 = x at *
      have CS2:=hid cs;clear cs
      have hin:(k:Int) < (len:Int):=by omega
      have t1:decide (Z < 274877906944) = true:=by have:=HAT.out;have:=HZ.out;simp;omega
      have t2:decide (Z + (k:Int) < 274877906944) = true:=by have:=HAT.out;have:=HZ.out;simp;omega
      clear hr2 hA2
      go_wp2_with fail
      with_reducible refine (CS2.out (Z + (k:Int)) (by have:=HZ.out;omega)).mono ?_
      rintro e w1 ⟨rfl,h1,f1⟩
      have H1:=hid h1;clear h1
      have F1:=hid (HFR.out.trans f1);clear f1
      go_wp2_with fail
      refine ⟨⟨k + 1,by omega,by go_num,H1.out,F1.out⟩,?_⟩
      simp only [intOf];omega
    · obtain rfl:k = len:=by omega
      go_wp2_with fail
      go_end0
      exact ⟨rfl,⟨M',HRP.out,HPR.out⟩,HFR.out⟩
theorem rp_fetch (h:RP S w rb P M mo b0 b1) (a:Nat) (ha:a < 2 ^ 64) :
    Calls Tryz.prog 49 #[addr0 rb,.int .u64 (a:Int)] w (FetchPost w (regs P) M a):=by
  have hfew:=h.few
  by_cases hodd:(a:Int) % 2 = 1
  · have t1:((a:Int) % 2 == 1) = true:=by simp [hodd]
    have HO:=hid hodd;clear hodd h
    unfold addr0
    go_enter Tryz.func49,Tryz.ntmps49
    go_wp2_with fail
    (try simp only [Exit.inBlock,Exit.then])
    refine bodyPost_ret (results_tmp_row rfl _ _ w.heap.size 41 _ (0,0) _ rfl (heap_alloc_new w _) Tryz.underlying41 rfl (by kernel_rfl)) rfl ?_
    exact ⟨0,3,a,rfl,.odd (by have:=HO.out;omega),Bl.new _ _⟩
  · have t1:((a:Int) % 2 == 1) = false:=by simp [hodd]
    have HE:Hid (a % 2 = 0):=hid (by omega)
    clear hodd
    have K0:=hid (Bl.new w (.cells #[.int .i64 0,.int .u64 0] 41))
    have hnb:=hid (hnum2 h.by_ a)
    have hnb4:Hid (0 ≤ numAt M a 4∧numAt M a 4 ≤ 4294967295):=hid (by
      have h1:=hnum2 h.by_ a
      have h2:=hnum2 h.by_ (a + 2)
      rw [num42];omega)
    have cl:=rp_first (h.bl K0.out) a 2 4 (by omega) (by omega) (by omega)
    have cl2:=fun W (k:Bl w W) (ht:a + 2 ≤ 274877906944)=>rp_first (h.bl k) ((a + 2:Nat):Int) 2 4 (by omega) (by omega) (by omega)
    have cb0:=fun W (k:Bl w W) (m:Nat) (ht:a + m ≤ 274877906944) (hm:m ≤ 8)=>rp_bytes (h.bl k) a m (by omega) (by omega)
    have cg0:=fun W B c (m:Nat) (hr:Rd W B (bytesAt M a m)) (h1:1 ≤ m) (h8:m ≤ 8)=>refGet_in B m c _ m W hr (bytesAt_length M a m) (by omega) h1 h8 (bytesAt_bd h.by_ a m)
    have hso:=hid (regs_so h.pgs)
    have cb4:=fun W k ht=>cb0 W k 4 ht (by omega)
    have cb:=fun W k ht=>cb0 W k 2 ht (by omega)
    have cg4:=fun W B c hr=>cg0 W B c 4 hr (by omega) (by omega)
    have cg:=fun W B c hr=>cg0 W B c 2 hr (by omega) (by omega)
    simp only [show ((2:Nat):Int) = 2 from rfl,show ((4:Nat):Int) = 4 from rfl] at cl cl2 cb cg cb4 cg4
    clear cb0 cg0
    have CB4:=hid cb4
    have CG4:=hid cg4
    have CL:=hid cl
    have CL2:=hid cl2
    have CB:=hid cb
    have CG:=hid cg
    clear cl cl2 cb cg cb4 cg4 h
    have haI:(a:Int) ≤ 18446744073709551615:=by omega
    have haI0:(0:Int) ≤ (a:Int):=by omega
    generalize regs P = L at *
    unfold addr0 at *
    go_enter Tryz.func49,Tryz.ntmps49
    go_wp2_with fail
    with_reducible refine CL.out.mono ?_
    rintro e w1 ⟨x,ok,rfl,hh,k⟩
    have HB1:=hid (new2 w w1 _ _ _ k)
    have K1:=hid (K0.out.trans k)
    clear k CL
    rcases hh with ⟨rfl,hh⟩ | ⟨rfl,hx,hh⟩
    · have HH:=hid hh;clear hh
      obtain ⟨d0,d1⟩:=two_cells HB1.out
      have f0:∀ i,w1.frozen? ⟨w.heap.size,i,none⟩ = false:=fun i=>by simp [World.frozen?,HB1.out]
      have f00:=f0 0
      have f01:=f0 1
      clear f0
      go_wp2_with fail
      (try simp only [Exit.inBlock,Exit.then])
      refine bodyPost_ret (results_tmp_row rfl _ _ w.heap.size 41 _ (0,0) _ rfl (set2 _ _ HB1.out) Tryz.underlying41 rfl (by kernel_rfl)) rfl ?_
      exact ⟨0,3,x,rfl,.bad1 x HE.out HH.out,(K1.out.set (Nat.le_refl _) _).set (Nat.le_refl _) _⟩
    · have htop:=hid (can_below hso.out (n:=2) hh (by omega))
      have HH:=hid hh;clear hh hx
      go_wp2_with fail
      with_reducible refine (CB.out _ K1.out htop.out).mono ?_
      rintro e w2 ⟨B,c,rfl,hr2,k2⟩
      have R2:=hid hr2;clear hr2
      have HB2:=hid (k2.at_ HB1.out)
      have K2:=hid (K1.out.trans k2);clear k2
      go_wp2_with fail
      with_reducible refine (CG.out _ B c R2.out).mono ?_
      rintro e w' ⟨rfl,rfl⟩
      have HN2:Hid (getS (bytesAt M a 2) (min 2 2) = numAt M a 2):=hid rfl
      rw [HN2.out]
      obtain ⟨N2,hN2⟩:∃ N2,N2 = numAt M a 2:=⟨_,rfl⟩
      rw [← hN2]
      rw [← hN2] at hnb
      have HNN:=hid hN2;clear hN2
      obtain ⟨n0,n1⟩:=hnb.out
      by_cases h3:N2 % 4 = 3
      · have t3:(N2 % 4 != 3) = false:=by simp [h3]
        have H3:=hid h3;clear h3
        have e2:IntKind.u64.wrap ((a:Int) + 2) = ((a + 2:Nat):Int):=by have:=htop.out;rw [IntWalk.u64_in _ (by omega)];omega
        have E2:Hid ((a:Int) + 2 = ((a + 2:Nat):Int)):=hid (by omega)
        have a2:(a:Int) + 2 ≤ 274877906944:=by have:=htop.out;omega
        clear e2
        go_wp2_with fail
        rw [E2.out]
        with_reducible refine (CL2.out _ K2.out htop.out).mono ?_
        rintro e w3 ⟨x3,ok3,rfl,hh3,k3⟩
        have HB3:=hid (k3.at_ HB2.out)
        have K3:=hid (K2.out.trans k3)
        clear k3 CL2
        rcases hh3 with ⟨rfl,hh3⟩ | ⟨rfl,hx3,hh3⟩
        · have HH3:=hid hh3;clear hh3
          obtain ⟨d0,d1⟩:=two_cells HB3.out
          have f0:∀ i,w3.frozen? ⟨w.heap.size,i,none⟩ = false:=fun i=>by simp [World.frozen?,HB3.out]
          have f00:=f0 0
          have f01:=f0 1
          clear f0
          go_wp2_with fail
          (try simp only [Exit.inBlock,Exit.then])
          refine bodyPost_ret (results_tmp_row rfl _ _ w.heap.size 41 _ (0,0) _ rfl (set2 _ _ HB3.out) Tryz.underlying41 rfl (by kernel_rfl)) rfl ?_
          exact ⟨0,3,x3,rfl,.bad2 x3 HE.out HH.out (by rw [← HNN.out];exact H3.out) HH3.out,(K3.out.set (Nat.le_refl _) _).set (Nat.le_refl _) _⟩
        · have htop4:Hid (a + 4 ≤ 274877906944):=hid (by have:=can_below hso.out (a:=a + 2) (n:=2) hh3 (by omega);omega)
          have HH3:=hid hh3;clear hh3 hx3
          go_wp2_with fail
          with_reducible refine (CB4.out _ K3.out htop4.out).mono ?_
          rintro e w4 ⟨B4,c4,rfl,hr4,k4⟩
          have R4:=hid hr4;clear hr4
          have HB4:=hid (k4.at_ HB3.out)
          have K4:=hid (K3.out.trans k4);clear k4
          go_wp2_with fail
          with_reducible refine (CG4.out _ B4 c4 R4.out).mono ?_
          rintro e w' ⟨rfl,rfl⟩
          have HN4:Hid (getS (bytesAt M a 4) (min 4 4) = numAt M a 4):=hid rfl
          rw [HN4.out]
          obtain ⟨N4,hN4⟩:∃ N4,N4 = numAt M a 4:=⟨_,rfl⟩
          rw [← hN4]
          rw [← hN4] at hnb4
          have HNM:=hid hN4;clear hN4
          obtain ⟨m0,m1⟩:=hnb4.out
          obtain ⟨d0,d1⟩:=two_cells HB4.out
          have f0:∀ i,w4.frozen? ⟨w.heap.size,i,none⟩ = false:=fun i=>by simp [World.frozen?,HB4.out]
          have f00:=f0 0
          have f01:=f0 1
          clear f0
          go_wp2_with fail
          (try simp only [Exit.inBlock,Exit.then])
          refine bodyPost_ret (results_tmp_row rfl _ _ w.heap.size 41 _ (0,0) _ rfl (set2 _ _ HB4.out) Tryz.underlying41 rfl (by kernel_rfl)) rfl ?_
          exact ⟨_,0,0,rfl,by rw [HNM.out];exact .long HE.out HH.out HH3.out (by rw [← HNN.out];exact H3.out),(K4.out.set (Nat.le_refl _) _).set (Nat.le_refl _) _⟩
      · have t3:(N2 % 4 != 3) = true:=by simp [h3]
        have H3:=hid h3;clear h3
        obtain ⟨d0,d1⟩:=two_cells HB2.out
        have f0:∀ i,w2.frozen? ⟨w.heap.size,i,none⟩ = false:=fun i=>by simp [World.frozen?,HB2.out]
        have f00:=f0 0
        have f01:=f0 1
        clear f0
        go_wp2_with fail
        (try simp only [Exit.inBlock,Exit.then])
        refine bodyPost_ret (results_tmp_row rfl _ _ w.heap.size 41 _ (0,0) _ rfl (set2 _ _ HB2.out) Tryz.underlying41 rfl (by kernel_rfl)) rfl ?_
        exact ⟨_,0,0,rfl,by rw [HNN.out];exact .short HE.out HH.out (by rw [← HNN.out];exact H3.out),(K2.out.set (Nat.le_refl _) _).set (Nat.le_refl _) _⟩
end
end Go.Proofs.YtbngjbmfkekdnaaGreatDoor

namespace Go.Proofs.YtbngjbmfkekdnaaGreatDoor
open Go.RowKit
set_option maxRecDepth 100000
theorem rinst_any {S:Nat → Prop} {mo b0 b1:Int} {w:World} {rb:Nat} {P:List Pg} {M:Nat → Int} (h:RP S w rb P M mo b0 b1) (pc:Nat) (hpc:pc < 2 ^ 64) :
    Calls Tryz.prog 24 #[addr0 rb,.int .u64 (pc:Int)] w fun e w'=>∃ A,AnsIs (regs P) M pc A∧e = .returned A.v∧Bl w w':=by
  have cf:=fun W (k:Bl w W)=>rp_fetch (h.bl k) pc hpc
  have CF:=hid cf;clear cf
  have HBY:=hid h.by_;clear h
  have CI:=hid (fun y W (hy:y < 4294967296)=>Tr.ref_any y W hy)
  have CX:=hid (fun y W (hy:y < 65536)=>Td.refx_any y W hy)
  have hpcI:(pc:Int) ≤ 18446744073709551615:=by omega
  have K0:=hid ((Bl.new w (.cells (Td.I7 0 0 0 0 0 0 0) 47)).alloc (.cells #[.int .i64 0,.int .i64 0,.int .u64 0] 49))
  have A0:=hid ((Bl.new (w.alloc (.cells (Td.I7 0 0 0 0 0 0 0) 47)) (.cells #[.int .i64 0,.int .i64 0,.int .u64 0] 49)).at_ (heap_alloc_new w (.cells (Td.I7 0 0 0 0 0 0 0) 47)))
  have A1:Hid (((w.alloc (.cells (Td.I7 0 0 0 0 0 0 0) 47)).alloc (.cells #[.int .i64 0,.int .i64 0,.int .u64 0] 49)).heap[w.heap.size + 1]? = some (.cells #[.int .i64 0,.int .i64 0,.int .u64 0] 49 (0,0))):=hid (by
    have:=heap_alloc_new (w.alloc (.cells (Td.I7 0 0 0 0 0 0 0) 47)) (.cells #[.int .i64 0,.int .i64 0,.int .u64 0] 49)
    rw [show (w.alloc (.cells (Td.I7 0 0 0 0 0 0 0) 47)).heap.size = w.heap.size + 1 by simp] at this
    exact this)
  unfold addr0 at *
  go_enter Tryz.func24,Tryz.ntmps24
  go_wp2_with fail
  with_reducible refine (CF.out _ K0.out).mono ?_
  rintro e w1 ⟨y,k,x,rfl,hf,kk⟩
  have HF:=hid hf;clear hf
  have K1:=hid (K0.out.trans kk)
  have B0:=hid (kk.at_ A0.out)
  have B1:=hid (kk.at_ A1.out)
  clear kk CF
  unfold faultV
  have hlt:w.heap.size + 1 < w1.heap.size:=lt_at B1.out
  by_cases hk:k = 0
  · subst hk
    obtain ⟨y0,y1⟩:=fetch_bd HBY.out HF.out
    obtain ⟨m,rfl⟩:=Int.eq_ofNat_of_zero_le y0
    have hm:m < 4294967296:=by omega
    have W2K:=hid (K1.out.alloc (.cells #[.int .i64 0,.int .u64 x] 41))
    have hb2:=heap_alloc_new w1 (.cells #[.int .i64 0,.int .u64 x] 41)
    obtain ⟨d0,d1⟩:=two_cells hb2
    have C0:=hid ((Bl.new w1 (.cells #[.int .i64 0,.int .u64 x] 41)).at_ B0.out)
    have C1:=hid ((Bl.new w1 (.cells #[.int .i64 0,.int .u64 x] 41)).at_ B1.out)
    clear hb2 y0 y1
    have hmI:(m:Int) < 4294967296:=by omega
    by_cases hm4:m % 4 ≠ 3
    · go_wp2_with fail
      with_reducible refine (CI.out m _ hm).mono ?_
      rintro e w2 ⟨rfl,kk0⟩
      have kk:=Td.Kp.bl kk0
      have hsz:w1.heap.size < w2.heap.size:=by have:=kk.size;simp at this;omega
      have K2:=hid (W2K.out.trans kk)
      have E0:=hid (kk.at_ C0.out)
      have E1:=hid (kk.at_ C1.out)
      clear kk kk0 C0 C1 B0 B1 d0 d1 W2K CI
      obtain ⟨⟨z0,z1,z2,z3,z4,z5,z6⟩,hZ⟩:∃ i:Td.Ins,Td.dec m = i:=⟨_,rfl⟩
      rw [hZ]
      unfold Td.Ins.cells
      obtain ⟨oz,hoz⟩:∃ o,decide (Td.opW m ≠ 0) = o:=⟨_,rfl⟩
      rw [hoz]
      clear hZ hoz
      have t4:((m:Int) % 4 != 3) = true:=by simp;omega
      have hb3:=heap_alloc_new w2 (.cells (Td.I7 z0 z1 z2 z3 z4 z5 z6) 47)
      have K3:=hid (K2.out.alloc (.cells (Td.I7 z0 z1 z2 z3 z4 z5 z6) 47))
      have G0:=hid ((Bl.new w2 (.cells (Td.I7 z0 z1 z2 z3 z4 z5 z6) 47)).at_ E0.out)
      have G1:=hid ((Bl.new w2 (.cells (Td.I7 z0 z1 z2 z3 z4 z5 z6) 47)).at_ E1.out)
      have HB3:=hid hb3
      clear hb3
      go_upto_region 6 with (fail)
      generalize w2.alloc (.cells (Td.I7 z0 z1 z2 z3 z4 z5 z6) 47) = W at *
      have HCV:Hid ((m:Int) % 65536 = ((m % 65536:Nat):Int)):=hid (by omega)
      go_wp2_with fail
      have hw16:IntKind.u16.wrap (m:Int) = ((m % 65536:Nat):Int):=by rw [IntKind.wrap_u16];omega
      first | rw [hw16] | rw [HCV.out]
      with_reducible refine (CX.out (m % 65536) _ (by omega)).mono ?_
      rintro e w3 ⟨rfl,kk0⟩
      have kk:=Td.Kp.bl kk0
      rw [← insOf_short hm4,← okOf_short hm4]
      have hsz3:w2.heap.size < w3.heap.size:=lt_at (kk.at_ HB3.out)
      have K4:=hid (K3.out.trans kk)
      have J0:=hid (kk.at_ G0.out)
      have J1:=hid (kk.at_ G1.out)
      have J2:=hid (kk.at_ HB3.out)
      clear kk kk0 HB3 G0 G1 CX hm4 hw16
      obtain ⟨⟨a0,a1,a2,a3,a4,a5,a6⟩,hE⟩:∃ i:Td.Ins,insOf m = i:=⟨_,rfl⟩
      rw [hE]
      unfold Td.Ins.cells
      have HEE:=hid hE
      clear hE
      obtain ⟨q0,q1,q2,q3,q4,q5,q6⟩:=seven_at J2.out
      have y0:=free_at J2.out
      go_upto_region 7 with (fail)
      have QB:=hid (set7 (.int .i64 a0) (.int .i64 a1) (.int .i64 a2) (.int .i64 a3) (.int .i64 a4) (.int .i64 a5) (.int .i64 a6) J2.out)
      have QK:=hid (bl7 K4.out (g:=w2.heap.size) (by have:=K2.out.size;omega) (.int .i64 a0) (.int .i64 a1) (.int .i64 a2) (.int .i64 a3) (.int .i64 a4) (.int .i64 a5) (.int .i64 a6))
      have F0:=hid (oth7 J0.out (g:=w2.heap.size) (by omega) (.int .i64 a0) (.int .i64 a1) (.int .i64 a2) (.int .i64 a3) (.int .i64 a4) (.int .i64 a5) (.int .i64 a6))
      have F1:=hid (oth7 J1.out (g:=w2.heap.size) (by omega) (.int .i64 a0) (.int .i64 a1) (.int .i64 a2) (.int .i64 a3) (.int .i64 a4) (.int .i64 a5) (.int .i64 a6))
      clear q0 q1 q2 q3 q4 q5 q6 y0
      generalize (((((((w3.setCell ⟨w2.heap.size,0,none⟩ (.int .i64 a0)).setCell ⟨w2.heap.size,1,none⟩ (.int .i64 a1)).setCell ⟨w2.heap.size,2,none⟩ (.int .i64 a2)).setCell ⟨w2.heap.size,3,none⟩ (.int .i64 a3)).setCell ⟨w2.heap.size,4,none⟩ (.int .i64 a4)).setCell ⟨w2.heap.size,5,none⟩ (.int .i64 a5)).setCell ⟨w2.heap.size,6,none⟩ (.int .i64 a6)) = W' at *
      obtain ⟨d0,d1,d2,d3,d4,d5,d6⟩:=seven_at QB.out
      obtain ⟨e0,e1,e2,e3,e4,e5,e6⟩:=seven_at F0.out
      obtain ⟨g0,g1,g2⟩:=three_at F1.out
      have z0:=free_at F0.out
      have z1:=free_at F1.out
      by_cases hok:okOf m = true
      · have HA:=hid (ansOf_ok (pc:=pc) (x:=x) hok)
        rw [hok]
        rw [HEE.out] at HA
        clear hok
        go_wp2_with fail
        (try simp only [Exit.inBlock,Exit.then])
        obtain ⟨s1,s2,s3⟩:=two_set (w0:=w) (g:=w.heap.size) (g2:=w.heap.size + 1) (by omega) F0.out F1.out (.int .i64 a0) (.int .i64 a1) (.int .i64 a2) (.int .i64 a3) (.int .i64 a4) (.int .i64 a5) (.int .i64 a6) (.int .i64 0) (.int .i64 0) (.int .u64 0) QK.out (by omega) (by omega)
        refine bodyPost_ret (results_rows2 rfl _ _ w.heap.size (w.heap.size + 1) 47 49 _ _ (0,0) (0,0) _ _ rfl s1 Tryz.underlying47 rfl (by kernel_rfl) rfl s2 Tryz.underlying49 rfl (by kernel_rfl)) rfl ?_
        exact ⟨_,⟨_,_,_,HF.out,rfl⟩,by rw [HA.out];rfl,s3⟩
      · have hok:okOf m = false:=by simpa using hok
        have HA:=hid (ansOf_ill (pc:=pc) (x:=x) hok)
        rw [hok]
        clear hok
        go_wp2_with fail
        (try simp only [Exit.inBlock,Exit.then])
        obtain ⟨s1,s2,s3⟩:=two_set (w0:=w) (g:=w.heap.size) (g2:=w.heap.size + 1) (by omega) F0.out F1.out (.int .i64 0) (.int .i64 0) (.int .i64 0) (.int .i64 0) (.int .i64 0) (.int .i64 0) (.int .i64 0) (.int .i64 3) (.int .i64 3) (.int .u64 (pc:Int)) QK.out (by omega) (by omega)
        refine bodyPost_ret (results_rows2 rfl _ _ w.heap.size (w.heap.size + 1) 47 49 _ _ (0,0) (0,0) _ _ rfl s1 Tryz.underlying47 rfl (by kernel_rfl) rfl s2 Tryz.underlying49 rfl (by kernel_rfl)) rfl ?_
        exact ⟨_,⟨_,_,_,HF.out,rfl⟩,by rw [HA.out];rfl,s3⟩
    · go_wp2_with fail
      with_reducible refine (CI.out m _ hm).mono ?_
      rintro e w2 ⟨rfl,kk0⟩
      have kk:=Td.Kp.bl kk0
      have hsz:w1.heap.size < w2.heap.size:=by have:=kk.size;simp at this;omega
      have K2:=hid (W2K.out.trans kk)
      have E0:=hid (kk.at_ C0.out)
      have E1:=hid (kk.at_ C1.out)
      clear kk kk0 C0 C1 B0 B1 d0 d1 W2K CI
      have hm4':m % 4 = 3:=by omega
      rw [← insOf_long hm4',← okOf_long hm4']
      have t4:((m:Int) % 4 != 3) = false:=by simp;omega
      clear hm4 hm4' CX
      obtain ⟨⟨a0,a1,a2,a3,a4,a5,a6⟩,hE⟩:∃ i:Td.Ins,insOf m = i:=⟨_,rfl⟩
      rw [hE]
      unfold Td.Ins.cells
      by_cases hok:okOf m = true
      · have HA:=hid (ansOf_ok (pc:=pc) (x:=x) hok)
        rw [hok]
        rw [hE] at HA
        clear hok hE
        have hb3:=heap_alloc_new w2 (.cells (Td.I7 a0 a1 a2 a3 a4 a5 a6) 47)
        have K3:=hid (K2.out.alloc (.cells (Td.I7 a0 a1 a2 a3 a4 a5 a6) 47))
        have F0:=hid ((Bl.new w2 (.cells (Td.I7 a0 a1 a2 a3 a4 a5 a6) 47)).at_ E0.out)
        have F1:=hid ((Bl.new w2 (.cells (Td.I7 a0 a1 a2 a3 a4 a5 a6) 47)).at_ E1.out)
        go_upto_region 7 with (fail)
        generalize w2.alloc (.cells (Td.I7 a0 a1 a2 a3 a4 a5 a6) 47) = W at *
        obtain ⟨d0,d1,d2,d3,d4,d5,d6⟩:=seven_at hb3
        obtain ⟨e0,e1,e2,e3,e4,e5,e6⟩:=seven_at F0.out
        obtain ⟨g0,g1,g2⟩:=three_at F1.out
        have z0:=free_at F0.out
        have z1:=free_at F1.out
        clear hb3
        go_wp2_with fail
        (try simp only [Exit.inBlock,Exit.then])
        obtain ⟨s1,s2,s3⟩:=two_set (w0:=w) (g:=w.heap.size) (g2:=w.heap.size + 1) (by omega) F0.out F1.out (.int .i64 a0) (.int .i64 a1) (.int .i64 a2) (.int .i64 a3) (.int .i64 a4) (.int .i64 a5) (.int .i64 a6) (.int .i64 0) (.int .i64 0) (.int .u64 0) K3.out (by omega) (by omega)
        refine bodyPost_ret (results_rows2 rfl _ _ w.heap.size (w.heap.size + 1) 47 49 _ _ (0,0) (0,0) _ _ rfl s1 Tryz.underlying47 rfl (by kernel_rfl) rfl s2 Tryz.underlying49 rfl (by kernel_rfl)) rfl ?_
        exact ⟨_,⟨_,_,_,HF.out,rfl⟩,by rw [HA.out];rfl,s3⟩
      · have hok:okOf m = false:=by simpa using hok
        have HA:=hid (ansOf_ill (pc:=pc) (x:=x) hok)
        rw [hok]
        clear hok hE
        have hb3:=heap_alloc_new w2 (.cells (Td.I7 a0 a1 a2 a3 a4 a5 a6) 47)
        have K3:=hid (K2.out.alloc (.cells (Td.I7 a0 a1 a2 a3 a4 a5 a6) 47))
        have F0:=hid ((Bl.new w2 (.cells (Td.I7 a0 a1 a2 a3 a4 a5 a6) 47)).at_ E0.out)
        have F1:=hid ((Bl.new w2 (.cells (Td.I7 a0 a1 a2 a3 a4 a5 a6) 47)).at_ E1.out)
        go_upto_region 7 with (fail)
        generalize w2.alloc (.cells (Td.I7 a0 a1 a2 a3 a4 a5 a6) 47) = W at *
        obtain ⟨e0,e1,e2,e3,e4,e5,e6⟩:=seven_at F0.out
        obtain ⟨g0,g1,g2⟩:=three_at F1.out
        have z0:=free_at F0.out
        have z1:=free_at F1.out
        clear hb3
        go_wp2_with fail
        (try simp only [Exit.inBlock,Exit.then])
        obtain ⟨s1,s2,s3⟩:=two_set (w0:=w) (g:=w.heap.size) (g2:=w.heap.size + 1) (by omega) F0.out F1.out (.int .i64 0) (.int .i64 0) (.int .i64 0) (.int .i64 0) (.int .i64 0) (.int .i64 0) (.int .i64 0) (.int .i64 3) (.int .i64 3) (.int .u64 (pc:Int)) K3.out (by omega) (by omega)
        refine bodyPost_ret (results_rows2 rfl _ _ w.heap.size (w.heap.size + 1) 47 49 _ _ (0,0) (0,0) _ _ rfl s1 Tryz.underlying47 rfl (by kernel_rfl) rfl s2 Tryz.underlying49 rfl (by kernel_rfl)) rfl ?_
        exact ⟨_,⟨_,_,_,HF.out,rfl⟩,by rw [HA.out];rfl,s3⟩
  · have HA:=hid (ansOf_no (pc:=pc) (y:=y) (x:=x) hk)
    have tk:(k != 0) = true:=by simp [hk]
    clear hk CI CX
    have hb2:=heap_alloc_new w1 (.cells #[.int .i64 k,.int .u64 x] 41)
    have K3:=hid (K1.out.alloc (.cells #[.int .i64 k,.int .u64 x] 41))
    have F0:=hid ((Bl.new w1 (.cells #[.int .i64 k,.int .u64 x] 41)).at_ B0.out)
    have F1:=hid ((Bl.new w1 (.cells #[.int .i64 k,.int .u64 x] 41)).at_ B1.out)
    go_upto_region 2 with (fail)
    generalize w1.alloc (.cells #[.int .i64 k,.int .u64 x] 41) = W at *
    obtain ⟨d0,d1⟩:=two_cells hb2
    obtain ⟨e0,e1,e2,e3,e4,e5,e6⟩:=seven_at F0.out
    obtain ⟨g0,g1,g2⟩:=three_at F1.out
    have z0:=free_at F0.out
    have z1:=free_at F1.out
    clear hb2
    go_wp2_with fail
    go_region
    all_goals (
      (try go_wp2_with fail)
      (try simp only [Exit.inBlock,Exit.then])
      first
      | (obtain ⟨s1,s2,s3⟩:=two_set (w0:=w) (g:=w.heap.size) (g2:=w.heap.size + 1) (by omega) F0.out F1.out (.int .i64 0) (.int .i64 0) (.int .i64 0) (.int .i64 0) (.int .i64 0) (.int .i64 0) (.int .i64 0) (.int .i64 4) (.int .i64 k) (.int .u64 x) K3.out (by omega) (by omega)
         refine bodyPost_ret (results_rows2 rfl _ _ w.heap.size (w.heap.size + 1) 47 49 _ _ (0,0) (0,0) _ _ rfl (drew_at s1) Tryz.underlying47 rfl (by kernel_rfl) rfl (drew_at s2) Tryz.underlying49 rfl (by kernel_rfl)) rfl ?_
         exact ⟨_,⟨_,_,_,HF.out,rfl⟩,by rw [HA.out];rfl,s3.drew⟩)
      | (obtain ⟨s1,s2,s3⟩:=two_set' (w0:=w) (g:=w.heap.size) (g2:=w.heap.size + 1) (by omega) F0.out F1.out (.int .i64 0) (.int .i64 0) (.int .i64 0) (.int .i64 0) (.int .i64 0) (.int .i64 0) (.int .i64 0) (.int .i64 4) (.int .i64 k) (.int .u64 x) K3.out (by omega) (by omega)
         refine bodyPost_ret (results_rows2 rfl _ _ w.heap.size (w.heap.size + 1) 47 49 _ _ (0,0) (0,0) _ _ rfl (drew_at s1) Tryz.underlying47 rfl (by kernel_rfl) rfl (drew_at s2) Tryz.underlying49 rfl (by kernel_rfl)) rfl ?_
         exact ⟨_,⟨_,_,_,HF.out,rfl⟩,by rw [HA.out];rfl,s3.drew⟩))
end Go.Proofs.YtbngjbmfkekdnaaGreatDoor

namespace Go.Proofs.YtbngjbmfkekdnaaGreatDoor
open Go.RowKit
set_option maxRecDepth 100000
theorem bl_new {a b c:World} {S:Nat → Prop} (k:Bl a b) (f:Fr S b c) (h:∀ x,S x → a.heap.size ≤ x):Bl a c:=
  ⟨f.os.trans k.os,f.tape.trans k.tape,f.output.trans k.output,Nat.le_trans k.size f.size,fun x hx=>(f.block x (Nat.lt_of_lt_of_le hx k.size) fun e=>by have:=h x e;omega).trans (k.block x hx)⟩
theorem boxes {w:World} (a b:Array Value) (s t:TypeId):((w.alloc (.cells a s)).alloc (.cells b t)).heap[w.heap.size]? = some (.cells a s (0,0))∧((w.alloc (.cells a s)).alloc (.cells b t)).heap[w.heap.size + 1]? = some (.cells b t (0,0))∧Bl w ((w.alloc (.cells a s)).alloc (.cells b t)):=
  ⟨(Bl.new _ _).at_ (heap_alloc_new w _),new_next w _ _,(Bl.new _ _).alloc _⟩
end Go.Proofs.YtbngjbmfkekdnaaGreatDoor

namespace Go.Proofs.YtbngjbmfkekdnaaGreatDoor
open Go.RowKit
set_option maxRecDepth 100000
theorem MS.keptB {T U:Nat → Prop} {w w':World} {sb n:Nat} {L:List Rg} {M st:Nat → Int} {mo ba en:Int} (h:MS T w sb n L M st mo ba en) (hf:Fr U w w') (hd:∀ b,b < w.heap.size → T b → ¬ U b):MS T w' sb n L M st mo ba en:=by
  have g:=h.among (U:=fun b=>T b∧b < w.heap.size) fun b hb hT=>⟨hT,hb⟩
  exact (g.kept hf (fun b e e2=>hd b e.2 e.1 e2)).among fun b hb e=>e.1
theorem frk_new {w0 w w':World} {K:Nat → Prop} (k:Bl w0 w) (f:Fr (fun b=>¬ K b) w w') (hK:∀ b,b < w0.heap.size → K b):Bl w0 w':=bl_new k f fun x hx=>by
  rcases Nat.lt_or_ge x w0.heap.size with h | h
  · exact absurd (hK x h) hx
  · exact h
def In20 (L:List Rg):Prop:=∀ x q,In L x q → x < 20480
theorem few20 {L:List Rg} (h:Rs L) (hb:In20 L):L.length ≤ 5∧tot L ≤ 20480:=by
  have hso:So 0 20480 L:=⟨h.nm.so.1,fun r hr=>by
    have h1:=h.nm.2 r hr
    have h2:=hb (r.e - 1) r.p ⟨r,hr,by omega,by omega,rfl⟩
    omega⟩
  exact ⟨h.few 5 (by omega) (fun a p e=>by have:=hb a p e;omega),by have:=(hso.tot_le (by omega)).2;omega⟩
theorem step_clear {L L':List Rg} {M st st':Nat → Int} {a b:Nat} (h2:Rise st st' (fun p=>a ≤ p * 4096∧p * 4096 < b)) (ha:a % 4096 = 0) (hb:b % 4096 = 0) (hin:∀ x q,(x < (a:Int) ∨ (b:Int) ≤ x) → (In L x q ↔ In L' x q)):Step L L' M (wiped M a b) st st':=fun p hp=>⟨(h2 p hp).1,fun e=>(h2 p hp).2 (by
  rcases e with ⟨x,hx,hne⟩ | ⟨q,hq⟩
  · have hxx:a ≤ x∧x < b:=by
      simp only [wiped] at hne
      by_cases hc:a ≤ x∧x < b
      · exact hc
      · rw [if_neg hc] at hne;exact absurd rfl hne
    omega
  · rcases Nat.lt_or_ge (p * 4096) a with h4 | h4
    · exact absurd (hin _ q (.inl (by omega))) hq
    · rcases Nat.lt_or_ge (p * 4096) b with h5 | h5
      · exact ⟨h4,h5⟩
      · exact absurd (hin _ q (.inr (by omega))) hq)⟩
theorem step_prot {L L':List Rg} {M st st':Nat → Int} {a b:Nat} (h2:Rise st st' (fun p=>a ≤ p * 4096∧p * 4096 < b)) (hin:∀ x q,(x < (a:Int) ∨ (b:Int) ≤ x) → (In L x q ↔ In L' x q)):Step L L' M M st st':=fun p hp=>⟨(h2 p hp).1,fun e=>(h2 p hp).2 (by
  rcases e with ⟨x,hx,hne⟩ | ⟨q,hq⟩
  · exact absurd rfl hne
  · rcases Nat.lt_or_ge (p * 4096) a with h4 | h4
    · exact absurd (hin _ q (.inl (by omega))) hq
    · rcases Nat.lt_or_ge (p * 4096) b with h5 | h5
      · exact ⟨h4,h5⟩
      · exact absurd (hin _ q (.inr (by omega))) hq)⟩
theorem lay_out_in {L:List Rg} (h:Rs L) {a b:Nat} {p:Int} (hs:Span (a:Int) (b:Int)) (x q:Int) (hx:x < (a:Int) ∨ (b:Int) ≤ x):In L x q ↔ In (layL L a b [⟨a,b,p⟩]) x q:=by
  rw [lay_in h (by omega) hs]
  exact ⟨fun e=>.inr ⟨hx,e⟩,fun e=>by rcases e with ⟨e1,e2,_⟩ | ⟨_,e⟩;omega;exact e⟩
theorem cut_out_in {L:List Rg} (h:Rs L) {a b:Nat} (hs:Span (a:Int) (b:Int)) (x q:Int) (hx:x < (a:Int) ∨ (b:Int) ≤ x):In L x q ↔ In (layL L a b []) x q:=by
  rw [cut_in h (by omega) hs]
  exact ⟨fun e=>⟨hx,e⟩,fun e=>e.2⟩
section
variable {K:Nat → Prop} {w w':World} {sb rb n:Nat} {L:List Rg} {M st:Nat → Int}
abbrev TwoA (K:Nat → Prop) (w:World) (sb rb n:Nat) (L:List Rg) (M st:Nat → Int) (L2:List Rg) (M2:Nat → Int):Prop:=Two K w sb rb n L M st 10 0 0 L2 M2
theorem Two.blK {L2:List Rg} {M2:Nat → Int} (h:TwoA K w sb rb n L M st L2 M2) (k:Bl w w'):TwoA K w' sb rb n L M st L2 M2:=(h.bl k).less fun b hb=>.inl hb
theorem Two.frK {L2:List Rg} {M2:Nat → Int} (h:TwoA K w sb rb n L M st L2 M2) {U:Nat → Prop} (hf:Fr U w w') (hU:∀ b,b < w.heap.size → U b → K b):TwoA (fun b=>K b ∨ (w.heap.size ≤ b∧b < w'.heap.size)) w' sb rb n L M st L2 M2:=by
  obtain ⟨T1,T2,P,h1,h2,h3,h4,h5,h6⟩:=h.ex
  have hs:=hf.size
  refine ⟨fun b=>T1 b∧(b < w.heap.size ∨ w'.heap.size ≤ b),fun b=>T2 b∧(b < w.heap.size ∨ w'.heap.size ≤ b),P,(h1.among fun b hb hT=>⟨hT,.inl hb⟩).keptB hf (fun b hb e e2=>(h5 b (hU b hb e2)).1 e.1),(h2.among fun b hb hT=>⟨hT,.inl hb⟩).kept hf (fun b hb e e2=>(h5 b (hU b hb e2)).2 e.1),h3,fun b hb e1 e2=>?_,fun b hb=>?_,fun b hb=>?_⟩
  · rcases e1.2 with h7 | h7
    · exact h4 b h7 e1.1 e2.1
    · omega
  · rcases hb with hb | hb
    · exact ⟨fun e=>(h5 b hb).1 e.1,fun e=>(h5 b hb).2 e.1⟩
    · exact ⟨fun e=>by rcases e.2 with h7 | h7 <;> omega,fun e=>by rcases e.2 with h7 | h7 <;> omega⟩
  · exact ⟨⟨(h6 b (by omega)).1,.inr hb⟩,⟨(h6 b (by omega)).2,.inr hb⟩⟩
theorem Two.call1K {L2:List Rg} {M2:Nat → Int} (h:TwoA K w sb rb n L M st L2 M2):∃ T1,MS T1 w sb n L M st 10 0 0∧(∀ b,w.heap.size ≤ b → T1 b)∧(∀ b,K b → ¬ T1 b)∧∀ w' n' L' M' st' mo' ba' en',mo' = 10 → ba' = 0 → en' = 0 → MS T1 w' sb n' L' M' st' mo' ba' en' → Fr T1 w w' → Two K w' sb rb n' L' M' st' 10 0 0 L2 M2∧Fr (fun b=>¬ K b) w w':=by
  obtain ⟨T1,T2,P,h1,h2,h3,h4,h5,h6⟩:=h.ex
  refine ⟨T1,h1,fun b hb=>(h6 b hb).1,fun b hb=>(h5 b hb).1,fun w' n' L' M' st' mo' ba' en' e1 e2 e3 hm hf=>⟨?_,hf.mono fun b _ hT e=>(h5 b e).1 hT⟩⟩
  subst e1 e2 e3
  have hs:=hf.size
  refine ⟨T1,fun b=>T2 b∧(b < w.heap.size ∨ w'.heap.size ≤ b),P,hm,(h2.among fun b hb hT=>⟨hT,.inl hb⟩).kept hf (fun b hb e e2=>h4 b hb e2 e.1),h3,fun b hb e1 e2=>?_,fun b hb=>⟨(h5 b hb).1,fun e=>(h5 b hb).2 e.1⟩,fun b hb=>⟨(h6 b (by omega)).1,⟨(h6 b (by omega)).2,.inr hb⟩⟩⟩
  rcases e2.2 with h7 | h7
  · exact h4 b h7 e1 e2.1
  · omega
theorem Two.call2K {L2:List Rg} {M2:Nat → Int} (h:TwoA K w sb rb n L M st L2 M2):∃ T2 P,RP T2 w rb P M2 10 0 0∧regs P = L2∧(∀ b,w.heap.size ≤ b → T2 b)∧(∀ b,K b → ¬ T2 b)∧∀ w' P' M2',RP T2 w' rb P' M2' 10 0 0 → Fr T2 w w' → Two K w' sb rb n L M st 10 0 0 (regs P') M2'∧Fr (fun b=>¬ K b) w w':=by
  obtain ⟨T1,T2,P,h1,h2,h3,h4,h5,h6⟩:=h.ex
  refine ⟨T2,P,h2,h3,fun b hb=>(h6 b hb).2,fun b hb=>(h5 b hb).2,fun w' P' M2' hm hf=>⟨?_,hf.mono fun b _ hT e=>(h5 b e).2 hT⟩⟩
  have hs:=hf.size
  have g1:MS (fun b=>T1 b∧(b < w.heap.size ∨ w'.heap.size ≤ b)) w' sb n L M st 10 0 0:=by
    have g:=h1.among (U:=fun b=>T1 b∧b < w.heap.size) fun b hb hT=>⟨hT,hb⟩
    have g2:=g.kept hf (fun b e e2=>h4 b e.2 e.1 e2)
    exact g2.among fun b hb e=>⟨e.1,.inl e.2⟩
  refine ⟨fun b=>T1 b∧(b < w.heap.size ∨ w'.heap.size ≤ b),T2,P',g1,hm,rfl,fun b hb e1 e2=>?_,fun b hb=>⟨fun e=>(h5 b hb).1 e.1,(h5 b hb).2⟩,fun b hb=>⟨⟨(h6 b (by omega)).1,.inr hb⟩,(h6 b (by omega)).2⟩⟩
  rcases e1.2 with h7 | h7
  · exact h4 b h7 e1.1 e2
  · omega
theorem TwoA.pages {L2:List Rg} {M2:Nat → Int} (h:TwoA K w sb rb n L M st L2 M2):Rs L∧Rs L2:=by
  obtain ⟨T1,T2,P,h1,h2,h3,_⟩:=h.ex
  exact ⟨h1.rs,by rw [← h3];exact regs_rs h2.pgs⟩
def Left1 (K:Nat → Prop) (w:World) (sb rb n:Nat) (L:List Rg) (M st:Nat → Int) (Q:List Rg → (Nat → Int) → Prop) (e:Ending) (w':World):Prop:=
  (∃ v,e = .returned v)∧∃ L' M' st' n',n' ≤ n + 9000∧In20 L'∧Step L L' M M' st st'∧Q L' M'∧TwoA K w' sb rb n' L' M' st' L M∧Fr (fun b=>¬ K b) w w'
def Left2 (K:Nat → Prop) (w:World) (sb rb n:Nat) (L:List Rg) (M st:Nat → Int) (e:Ending) (w':World):Prop:=
  (∃ v,e = .returned v)∧TwoA K w' sb rb n L M st L M∧Fr (fun b=>¬ K b) w w'
theorem Left1.none_ {Q:List Rg → (Nat → Int) → Prop} (h:TwoA K w sb rb n L M st L M) (hi:In20 L) (hq:Q L M) (k:Bl w w') (v:Value):Left1 K w sb rb n L M st Q (.returned v) w':=
  ⟨⟨v,rfl⟩,L,M,st,n,by omega,hi,Step.refl _ _ _,hq,Two.blK h k,Fr.of_bl k⟩
def QStore (L:List Rg) (M:Nat → Int) (a:Nat) (x:Int) (L':List Rg) (M':Nat → Int):Prop:=L' = L∧((Cans L 2 a 4∧M' = lay M a (putB x 4)) ∨ (¬ Cans L 2 a 4∧M' = M))
theorem act_store1 (h:TwoA K w sb rb n L M st L M) (hi:In20 L) (a:Nat) (x:Int) (hA:a < 2 ^ 64) (hn:n < 8000000) :
    Calls Tryz.prog 14 #[addr0 sb,.int .u64 (a:Int),.int .i64 4,.int .u64 x] w (Left1 K w sb rb n L M st (QStore L M a x)):=by
  obtain ⟨T1,hm,hT,hcl⟩:=h.call1
  refine (mstore_any hm a 4 x hA (by omega) (by omega) hT).mono ?_
  rintro e w' ⟨q,y,rfl,hs⟩
  rcases hs with ⟨_,z1,z2,z3,_,kk⟩ | ⟨rfl,rfl,hc,st',h1,hr,hf⟩
  · exact Left1.none_ h hi ⟨rfl,.inr ⟨fun hc=>z3 (hc y z1 z2),rfl⟩⟩ kk _
  · obtain ⟨g1,g2⟩:=hcl _ _ _ _ _ _ _ _ rfl rfl rfl h1 hf
    refine ⟨⟨_,rfl⟩,L,_,st',_,by omega,hi,Step.bytes (hr.mono fun p ⟨x',hx,hne⟩=>?_),⟨rfl,.inl ⟨hc,rfl⟩⟩,g1,g2⟩
    have h2:=lay_ne hne
    rw [putB_length] at h2
    exact ⟨x',h2.1,h2.2,hx.symm⟩
theorem act_store2 {L':List Rg} {M' st':Nat → Int} (h:TwoA K w sb rb n L' M' st' L M) (a:Nat) (x:Int) (hA:a < 2 ^ 64) (hq:QStore L M a x L' M') :
    Calls Tryz.prog 15 #[addr0 rb,.int .u64 (a:Int),.int .i64 4,.int .u64 x] w (Left2 K w sb rb n L' M' st'):=by
  obtain ⟨T2,P,hm,hreg,hT,hcl⟩:=h.call2
  obtain ⟨rfl,hq⟩:=hq
  refine (rp_store hm a 4 x hA (by omega)).mono ?_
  rintro e w' ⟨q,y,rfl,hs⟩
  rw [hreg] at hs
  rcases hs with ⟨_,z1,z2,z3,_,kk⟩ | ⟨rfl,rfl,hc,h1,hf⟩
  · rcases hq with ⟨hc,_⟩ | ⟨_,rfl⟩
    · exact absurd (hc y z1 z2) z3
    · exact ⟨⟨_,rfl⟩,Two.blK h kk,Fr.of_bl kk⟩
  · rcases hq with ⟨_,rfl⟩ | ⟨hn,_⟩
    · obtain ⟨g1,g2⟩:=hcl _ _ _ h1 hf
      rw [hreg] at g1
      exact ⟨⟨_,rfl⟩,g1,g2⟩
    · exact absurd hc hn
def QPut (L:List Rg) (M:Nat → Int) (a:Nat) (xs:List Int) (l:Nat) (L':List Rg) (M':Nat → Int):Prop:=L' = L∧PutRel L M a xs l M'
theorem act_put1 (h:TwoA K w sb rb n L M st L M) (hi:In20 L) (a:Nat) (A:Option Addr) (l c:Nat) (xs:List Int) (hr:Rd w A xs) (hl:xs.length = l) (hlc:l ≤ c) (hb:∀ k,0 ≤ xs.getD k 0∧xs.getD k 0 ≤ 255) (hK:0 < l → ∀ ad,A = some ad → K ad.block) (ha:a ≤ 100000000) (hl2:l ≤ 1500) (hn:n < 8000000) :
    Calls Tryz.prog 11 #[addr0 sb,.int .u64 (a:Int),.slice A l c] w (Left1 K w sb rb n L M st (QPut L M a xs l)):=by
  obtain ⟨T1,hm,hT,hKT,hcl⟩:=h.call1K
  refine (mput_rel hm a A l c xs hr hl hlc hb (fun h0 ad e=>hKT _ (hK h0 ad e)) (by omega) (by omega) (by omega) hT).mono ?_
  rintro e w' ⟨rfl,M',st',g1,g2,g3,g4⟩
  obtain ⟨q1,q2⟩:=hcl _ _ _ _ _ _ _ _ rfl rfl rfl g1 g4
  exact ⟨⟨_,rfl⟩,L,M',st',_,by omega,hi,g3,⟨rfl,g2⟩,q1,q2⟩
theorem act_put2 {L':List Rg} {M' st':Nat → Int} (h:TwoA K w sb rb n L' M' st' L M) (a:Nat) (A:Option Addr) (l c:Nat) (xs:List Int) (hr:Rd w A xs) (hl:xs.length = l) (hb:∀ k,0 ≤ xs.getD k 0∧xs.getD k 0 ≤ 255) (hK:∀ ad,A = some ad → K ad.block) (ha:a ≤ 100000000) (hl2:l ≤ 1500) (hq:QPut L M a xs l L' M') :
    Calls Tryz.prog 12 #[addr0 rb,.int .u64 (a:Int),.slice A l c] w (Left2 K w sb rb n L' M' st'):=by
  obtain ⟨T2,P,hm,hreg,hT,hKT,hcl⟩:=h.call2K
  obtain ⟨rfl,hq⟩:=hq
  refine (rp_lays_rel hm a A l c xs hr hl hb (fun _ ad e=>hKT _ (hK ad e)) (by omega) (by omega)).mono ?_
  rintro e w' ⟨rfl,⟨M2,g1,g2⟩,g3⟩
  rw [hreg] at g2
  obtain rfl:=g2.one hq
  obtain ⟨q1,q2⟩:=hcl _ _ _ g1 g3
  rw [hreg] at q1
  exact ⟨⟨_,rfl⟩,q1,q2⟩
def QUnmap (L:List Rg) (M:Nat → Int) (a:Nat) (L':List Rg) (M':Nat → Int):Prop:=L' = layL L (a:Int) ((a + 4096:Nat):Int) []∧M' = wiped M a (a + 4096)
theorem span_page {a:Nat} (ha:a % 4096 = 0) (h:a ≤ 16384):Span (a:Int) ((a + 4096:Nat):Int):=⟨by omega,by omega,by omega,by omega⟩
theorem upW4096 {a:Nat} (h:a ≤ 16384):((a + 4096:Nat):Int) = IntKind.u64.wrap (a + upW 4096):=by
  rw [upW_in (by omega) (by omega),IntWalk.u64_in _ (by omega)];omega
theorem act_unmap1 (h:TwoA K w sb rb n L M st L M) (hi:In20 L) (a:Nat) (ha:a % 4096 = 0) (h16:a ≤ 16384) (hn:n < 8000000) :
    Calls Tryz.prog 18 #[addr0 sb,.int .u64 (a:Int),.int .u64 4096] w (Left1 K w sb rb n L M st (QUnmap L M a)):=by
  obtain ⟨T1,hm,hT,hcl⟩:=h.call1
  have hs:=span_page ha h16
  have hrs:=hm.rs.cut (by omega) hs
  have hci:=cut_in hm.rs (by omega) hs
  have hf:=few20 hrs (fun x q hx=>hi x q ((hci x q).1 hx).2)
  refine (munmap_of hm a (a + 4096) 4096 (by omega) (upW4096 h16) (by omega) hT (clears_all _ _ (by omega) hT)).mono ?_
  rintro e w' ⟨r,rfl,hh⟩
  rcases hh with ⟨_,_,_,st',h1,h2,h3⟩ | ⟨_,hx,_⟩
  · obtain ⟨g1,g2⟩:=hcl _ _ _ _ _ _ _ _ rfl rfl rfl h1 h3
    exact ⟨⟨_,rfl⟩,_,_,st',_,by omega,fun x q hx=>hi x q ((hci x q).1 hx).2,step_clear h2 ha (by omega) (cut_out_in hm.rs hs),⟨rfl,rfl⟩,g1,g2⟩
  · exact absurd ⟨hs,by omega⟩ hx
theorem pages20 {S:Nat → Prop} {mo b0 b1:Int} {P:List Pg} (h:RP S w rb P M mo b0 b1) (hi:In20 (regs P)):P.length ≤ 5:=by
  have h1:=(regs_all h.pgs (by omega)).2.2.1
  have h2:=(few20 (regs_rs h.pgs) hi).2
  omega
theorem act_unmap2 {L':List Rg} {M' st':Nat → Int} (h:TwoA K w sb rb n L' M' st' L M) (hi:In20 L) (a:Nat) (ha:a % 4096 = 0) (h16:a ≤ 16384) (hq:QUnmap L M a L' M') :
    Calls Tryz.prog 19 #[addr0 rb,.int .u64 (a:Int),.int .u64 4096] w (Left2 K w sb rb n L' M' st'):=by
  obtain ⟨T2,P,hm,hreg,hT,hcl⟩:=h.call2
  obtain ⟨rfl,rfl⟩:=hq
  have hs:=span_page ha h16
  have hl:=pages20 hm (by rw [hreg];exact hi)
  have hc:=rp_unmap hm hT (by omega) a (a + 4096) hs
  rw [show ((a + 4096:Nat):Int) - (a:Int) = 4096 by omega] at hc
  refine hc.mono ?_
  rintro e w' ⟨rfl,g1,g2⟩
  obtain ⟨q1,q2⟩:=hcl _ _ _ g1 g2
  have he:regs (outP P (a:Int) ((a + 4096:Nat):Int)) = layL L (a:Int) ((a + 4096:Nat):Int) []:=by
    have hrsL:Rs L:=by rw [← hreg];exact regs_rs hm.pgs
    refine (regs_rs g1.pgs).eq (hrsL.cut (by omega) hs) fun x q=>?_
    rw [regs_in g1.pgs,outP_on hs.1 hs.2.1 hs.2.2.1,cut_in hrsL (by omega) hs,← hreg,regs_in hm.pgs]
  rw [he] at q1
  exact ⟨⟨_,rfl⟩,q1,q2⟩
def QMap (L:List Rg) (M:Nat → Int) (a:Nat) (p:Int) (L':List Rg) (M':Nat → Int):Prop:=L' = layL L (a:Int) ((a + 4096:Nat):Int) [⟨(a:Int),((a + 4096:Nat):Int),p⟩]∧M' = wiped M a (a + 4096)
theorem lay20 (hr:Rs L) (hi:In20 L) {a:Nat} (ha:a % 4096 = 0) (h16:a ≤ 16384) (p:Int):In20 (layL L (a:Int) ((a + 4096:Nat):Int) [⟨(a:Int),((a + 4096:Nat):Int),p⟩]):=fun x q hx=>by
  rcases (lay_in hr (by omega) (span_page ha h16) x q).1 hx with ⟨_,h2,_⟩ | ⟨_,h2⟩
  · omega
  · exact hi x q h2
theorem act_map1 (h:TwoA K w sb rb n L M st L M) (hi:In20 L) (a:Nat) (p:Int) (hp:0 ≤ p∧p ≤ 7) (ha:a % 4096 = 0) (h16:a ≤ 16384) (hn:n < 8000000) :
    Calls Tryz.prog 9 #[addr0 sb,.int .u64 (a:Int),.int .u64 4096,.int .i64 p,.bool true] w (Left1 K w sb rb n L M st (QMap L M a p)):=by
  obtain ⟨T1,hm,hT,hcl⟩:=h.call1
  have hs:=span_page ha h16
  have hrs:=hm.rs.lay (p:=p) (by omega) hs
  have hl20:=lay20 hm.rs hi ha h16 p
  have hf:=few20 hrs hl20
  refine (mmap_fixed hm a 4096 p (by omega) (by omega) ⟨by omega,by omega,by omega,hp.1,hp.2⟩ (by omega) hT (a + 4096) (by rw [IntWalk.u64_in _ (by omega)];omega)).mono ?_
  rintro e w' ⟨r,rfl,hl⟩
  rcases hl with ⟨rfl,_,_,_,_,_,st',h1,h2,h3⟩ | ⟨_,hx,_⟩ | ⟨_,_,hx,_⟩
  · obtain ⟨g1,g2⟩:=hcl _ _ _ _ _ _ _ _ rfl rfl rfl h1 h3
    exact ⟨⟨_,rfl⟩,_,_,st',_,by omega,hl20,step_clear h2 ha (by omega) (lay_out_in hm.rs hs),⟨rfl,rfl⟩,g1,g2⟩
  · exact absurd ⟨hs,hp.1,hp.2⟩ hx
  · omega
theorem act_map2 {L':List Rg} {M' st':Nat → Int} (h:TwoA K w sb rb n L' M' st' L M) (hi:In20 L) (a:Nat) (p:Int) (hp:0 ≤ p∧p ≤ 7) (ha:a % 4096 = 0) (h16:a ≤ 16384) (hq:QMap L M a p L' M') :
    Calls Tryz.prog 20 #[addr0 rb,.int .u64 (a:Int),.int .u64 4096,.int .i64 p,.bool true] w (Left2 K w sb rb n L' M' st'):=by
  obtain ⟨T2,P,hm,hreg,hT,hcl⟩:=h.call2
  obtain ⟨rfl,rfl⟩:=hq
  have hs:=span_page ha h16
  have hrsL:Rs L:=by rw [← hreg];exact regs_rs hm.pgs
  have hl5:=pages20 hm (by rw [hreg];exact hi)
  have hf:=few20 (hrsL.lay (p:=p) (by omega) hs) (lay20 hrsL hi ha h16 p)
  have heq:∀ P',Pgs 67108864 P' → SetAs P P' (a:Int) ((a + 4096:Nat):Int) p → regs P' = layL L (a:Int) ((a + 4096:Nat):Int) [⟨(a:Int),((a + 4096:Nat):Int),p⟩]:=fun P' hp' hset=>by
    refine (regs_rs hp').eq (hrsL.lay (by omega) hs) fun x q=>?_
    rw [regs_in hp',hset x q,lay_in hrsL (by omega) hs,← hreg,regs_in hm.pgs]
  have hc:=rp_map hm hT a (a + 4096) p hp hs
  rw [show ((a + 4096:Nat):Int) - (a:Int) = 4096 by omega] at hc
  refine hc.mono ?_
  rintro e w' ⟨r,x,rfl,r',hr,hl⟩
  rcases hl with ⟨_,P',g1,g2,g3,g4⟩ | ⟨_,_,hno | ⟨P',g1,g2,g3⟩⟩
  · obtain ⟨q1,q2⟩:=hcl _ _ _ g1 g3
    rw [heq P' g1.pgs g2] at q1
    exact ⟨⟨_,rfl⟩,q1,q2⟩
  · have h1:=outP_len P (a:Int) ((a + 4096:Nat):Int)
    omega
  · rw [heq P' g1 g2] at g3
    omega
def QProt (L:List Rg) (M:Nat → Int) (a:Nat) (p:Int) (L':List Rg) (M':Nat → Int):Prop:=M' = M∧((Mapped L (a:Int) ((a + 4096:Nat):Int)∧L' = layL L (a:Int) ((a + 4096:Nat):Int) [⟨(a:Int),((a + 4096:Nat):Int),p⟩]) ∨ (¬ Mapped L (a:Int) ((a + 4096:Nat):Int)∧L' = L))
theorem act_prot1 (h:TwoA K w sb rb n L M st L M) (hi:In20 L) (a:Nat) (p:Int) (hp:0 ≤ p∧p ≤ 7) (ha:a % 4096 = 0) (h16:a ≤ 16384) (hn:n < 8000000) :
    Calls Tryz.prog 16 #[addr0 sb,.int .u64 (a:Int),.int .u64 4096,.int .i64 p] w (Left1 K w sb rb n L M st (QProt L M a p)):=by
  obtain ⟨T1,hm,hT,hcl⟩:=h.call1
  have hs:=span_page ha h16
  have hrs:=hm.rs.lay (p:=p) (by omega) hs
  have hl20:=lay20 hm.rs hi ha h16 p
  have hf:=few20 hrs hl20
  refine (mprotect_any hm a (a + 4096) 4096 p (by omega) (upW4096 h16) (by omega) hT).mono ?_
  rintro e w' ⟨r,rfl,hl⟩
  rcases hl with ⟨_,_,_,_,hmap,_,st',h1,h2,h3⟩ | ⟨_,hx,kk⟩
  · obtain ⟨g1,g2⟩:=hcl _ _ _ _ _ _ _ _ rfl rfl rfl h1 h3
    exact ⟨⟨_,rfl⟩,_,M,st',_,by omega,hl20,step_prot h2 (lay_out_in hm.rs hs),⟨rfl,.inl ⟨hmap,rfl⟩⟩,g1,g2⟩
  · exact Left1.none_ h hi ⟨rfl,.inr ⟨fun hmap=>hx ⟨hs,hp.1,hp.2,hmap,by omega⟩,rfl⟩⟩ kk _
theorem act_prot2 {L':List Rg} {M' st':Nat → Int} (h:TwoA K w sb rb n L' M' st' L M) (hi:In20 L) (a:Nat) (p:Int) (hp:0 ≤ p∧p ≤ 7) (ha:a % 4096 = 0) (h16:a ≤ 16384) (hq:QProt L M a p L' M') :
    Calls Tryz.prog 17 #[addr0 rb,.int .u64 (a:Int),.int .u64 4096,.int .i64 p] w (Left2 K w sb rb n L' M' st'):=by
  obtain ⟨T2,P,hm,hreg,hT,hcl⟩:=h.call2
  obtain ⟨rfl,hq⟩:=hq
  have hs:=span_page ha h16
  have hrsL:Rs L:=by rw [← hreg];exact regs_rs hm.pgs
  have hl5:=pages20 hm (by rw [hreg];exact hi)
  have hmm:Mapped L (a:Int) ((a + 4096:Nat):Int) ↔ ∀ y,(a:Int) ≤ y → y < ((a + 4096:Nat):Int) → ∃ q,OnP P y q:=by
    unfold Mapped
    constructor
    · intro h1 y y1 y2
      obtain ⟨q,hq⟩:=h1 y y1 y2
      rw [← hreg,regs_in hm.pgs] at hq
      exact ⟨q,hq⟩
    · intro h1 y y1 y2
      obtain ⟨q,hq⟩:=h1 y y1 y2
      exact ⟨q,by rw [← hreg,regs_in hm.pgs];exact hq⟩
  rcases hq with ⟨hmap,rfl⟩ | ⟨hmap,rfl⟩
  · have hc:=rp_protect hm hT (by omega) a (a + 4096) p hp hs (hmm.1 hmap)
    rw [show ((a + 4096:Nat):Int) - (a:Int) = 4096 by omega] at hc
    refine hc.mono ?_
    rintro e w' ⟨rfl,g1,g2⟩
    obtain ⟨q1,q2⟩:=hcl _ _ _ g1 g2
    have he:regs (protP P (a:Int) ((a + 4096:Nat):Int) p) = layL L (a:Int) ((a + 4096:Nat):Int) [⟨(a:Int),((a + 4096:Nat):Int),p⟩]:=by
      refine (regs_rs g1.pgs).eq (hrsL.lay (by omega) hs) fun x q=>?_
      rw [regs_in g1.pgs,protP_on hs.1 hs.2.1 (hmm.1 hmap),lay_in hrsL (by omega) hs,← hreg,regs_in hm.pgs]
    rw [he] at q1
    exact ⟨⟨_,rfl⟩,q1,q2⟩
  · have hc:=rp_protect_no hm (by omega) a (a + 4096) p hp hs (fun e=>hmap (hmm.2 e))
    rw [show ((a + 4096:Nat):Int) - (a:Int) = 4096 by omega] at hc
    refine hc.mono ?_
    rintro e w' ⟨rfl,kk⟩
    exact ⟨⟨_,rfl⟩,Two.blK h kk,Fr.of_bl kk⟩
end
end Go.Proofs.YtbngjbmfkekdnaaGreatDoor
