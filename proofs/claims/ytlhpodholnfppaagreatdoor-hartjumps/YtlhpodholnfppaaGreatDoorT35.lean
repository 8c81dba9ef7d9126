/-
  HartJumps's walk.
-/
import Derived.Test.YtlhpodholnfppaaGreatDoorT34
import Derived.Test.YtlhpodholnfppaaGreatDoorT1
import Derived.Lib.Hide
set_option linter.unusedVariables false
set_option linter.unusedSimpArgs false
set_option maxHeartbeats 16000000
open Go.Lib (hid)
namespace Go.Proofs.YtlhpodholnfppaaGreatDoor
open Go.RowKit
set_option maxRecDepth 100000
theorem i16_in {a:Int} (h:(Lit.int .i16 a).wf = true):-32768 ≤ a∧a ≤ 32767:=by
  have h4:(decide ((-32768:Int) ≤ a) && decide (a ≤ 32767)) = true:=h
  simpa only [Bool.and_eq_true,decide_eq_true_eq] using h4
theorem refPut_cap (A:Option Addr) (len cap:Nat) (xs:List Int) (x:Int) (n:Nat) (w:World) (hr:Rd w A xs) (hl:xs.length = len) (hc:A = none → cap = 0) (hm:len ≤ 5100) (h1:1 ≤ n) (h8:n ≤ 8) :
    Calls Tryz.prog 16 #[.slice A len cap,.int .u64 x,.int .i64 n] w fun e w'=>∃ B c,e = .returned (.slice B (len + n) c)∧Rd w' B (xs ++ putB x n)∧Below w.heap.size w w'∧(B = none → c = 0)∧len + n ≤ c:=by
  obtain ⟨i0,hi0,hz0,hz1,hz2⟩:=info_parts infoByte
  have HR:=hid hr;clear hr
  have HL:=hid hl;clear hl
  have HC:=hid hc;clear hc
  have J0:=hid hi0;clear hi0
  have J1:=hid hz0;clear hz0
  have J2:=hid hz1;clear hz1
  have J3:=hid hz2;clear hz2
  go_enter Tryz.func16,Tryz.ntmps16
  go_wp2_with (at_builtin;refine wpl_append rfl (.tmp 9) (.tmp 10) 22 rfl w.heap.size 5 i0 Tryz.underlying22 J0.out J1.out J2.out J3.out _ 0 [] rfl (own_empty w) A len cap xs rfl (HR.out.alloc _) HL.out HC.out (by omega) (by simp) ?_;intro v1 w1 hown1 hg1;have HO1:=hid hown1;clear hown1)
  have hbel:Below w.heap.size w w1:=((Below.refl _ _).alloc (Nat.le_refl _) _).grown hg1 (by simp) (own_block_ge (own_empty w))
  clear hg1
  go_loopw [7,8] (fun v i wr=>∃ k:Nat,k ≤ n∧i = .int .i64 k∧wr.ownsRow w.heap.size 5 1 v (len + k) (asBytes (xs ++ putB x k))∧Below w.heap.size w wr) (fun _ i _=>n - (intOf i).toNat)
  case atStart=>exact ⟨0,by omega,rfl,by simpa [putB] using HO1.out,hbel⟩
  case round =>
    obtain ⟨k,hk,rfl,hown,hbr⟩:=hrel
    clear hbel HO1
    have HO:=hid hown;clear hown
    by_cases hlt:k < n
    · go_wp2_with (at_builtin;refine wpl_append rfl (.tmp 24) (.tmp 31) 22 rfl w.heap.size 5 i0 Tryz.underlying22 J0.out J1.out J2.out J3.out _ (len + k) (xs ++ putB x k) rfl (HO.out.alloc _) (some ⟨wr.heap.size,0,none⟩) 1 1 [x / 2 ^ (8 * k) % 256] rfl (one_cell wr _) rfl (fun h=>by cases h) (by omega) (by have:=hbr.size;simp;omega) ?_;intro v2 w2 hown2 hg2)
      have hsz:=hbr.size
      have hb2:Below w.heap.size w w2:=(hbr.alloc hsz _).grown hg2 (by simp;omega) (own_block_ge HO.out)
      go_roundw
      case rel=>exact ⟨k + 1,by omega,by go_num,by rw [putB_succ,← List.append_assoc];exact hown2,hb2⟩
      case measure=>simp [intOf];omega
    · obtain rfl:k = n:=by omega
      go_wp2
      go_ret
      obtain ⟨B,c,rfl,hrd,_,hnn,hcc⟩:=Rd.of_own HO.out
      exact ⟨B,c,rfl,hrd,hbr,hnn,hcc⟩
theorem jalr_bits:∀ d,d < 32 → bits .or .u64 (((d:Nat):Int) * 32768) 103 = ((d:Nat):Int) * 32768 + 103:=by decide +kernel
theorem dec_ok {y:Nat} (h:y % 4 = 3) {i:Td.Ins} (hd:Td.dec y = i) (ho:i.op ≠ 0):okOf y = true∧insOf y = i:=by
  refine ⟨?_,by rw [insOf_long h,hd]⟩
  rw [okOf_long h,decide_eq_true_eq]
  intro e
  apply ho
  rw [← hd]
  unfold Td.dec
  rw [if_pos e];rfl
theorem ans_word {M:Nat → Int} {p y:Nat} {x:Int} (hp:p % 2 = 0) (h:65536 ≤ p∧p + 3 < 73728) (hx:x = (y:Int)) (hy:y < 4294967296) (h3:y % 4 = 3) (hm:∀ t,t < 4 → M (p + t) = (putB x 4).getD t 0) {i:Td.Ins} (hd:Td.dec y = i) (ho:i.op ≠ 0):AnsIs l3 M p ⟨i,0,0,0⟩:=by
  obtain ⟨g1,g2⟩:=dec_ok h3 hd ho
  have m0:=hm 0 (by decide)
  have m1:=hm 1 (by decide)
  have m2:=hm 2 (by decide)
  have m3:=hm 3 (by decide)
  rw [putB_get _ _ _ (by decide)] at m0 m1 m2 m3
  simp only [Nat.add_zero,Nat.mul_zero,Int.pow_zero,Int.ediv_one,Nat.mul_one,show (2:Int) ^ 8 = 256 from rfl,show (2:Int) ^ (8 * 2) = 65536 from rfl,show (2:Int) ^ (8 * 3) = 16777216 from rfl] at m0 m1 m2 m3
  have:=ans_long (M:=M) hp h (y:=y) (by rw [m0,m1,m2,m3];omega) (by rw [m0,m1];omega) g1
  rwa [g2] at this
theorem jump_macs {M:Nat → Int} {d q:Nat} {xs:List Int} (hd:1 ≤ d∧d < 32) (hq:4 ≤ q∧q < 503) (h2:q % 2 = 0) (hR:Regs xs) (m1:∀ t,t < 4 → M (65536 + t) = (putB ((q:Int) * 2097152 + (d:Int) * 128 + 111) 4).getD t 0) (m2:∀ t,t < 4 → M (65536 + 2 * q + t) = (putB ((d:Int) * 32768 + 103) 4).getD t 0) :
    MacIs l3 M ⟨65536,xs,0,0⟩ 0 0 0 ⟨65536 + 2 * (q:Int),setX xs d 65540,0,0⟩ M∧MacIs l3 M ⟨65536 + 2 * (q:Int),setX xs d 65540,0,0⟩ 0 0 0 ⟨65540,setX xs d 65540,0,0⟩ M∧(setX xs d 65540).getD d 0 = 65540:=by
  have w1:=jal_word d hd.2 q hq.2
  have w2:=jalr_word d hd.2
  have a1:=ans_word (M:=M) (p:=65536) (y:=q * 2097152 + d * 128 + 111) (x:=(q:Int) * 2097152 + (d:Int) * 128 + 111) (by decide) (by decide) (by omega) (by omega) (by omega) m1 w1 (show (3:Int) ≠ 0 by decide)
  have a2:=ans_word (M:=M) (p:=65536 + 2 * q) (y:=d * 32768 + 103) (x:=(d:Int) * 32768 + 103) (by omega) (by omega) (by omega) (by omega) (by omega) m2 w2 (show (4:Int) ≠ 0 by decide)
  have hx:(setX xs d 65540).getD d 0 = 65540:=by
    have hl:=hR.len
    rw [setX_pos hR (by omega)]
    simp [List.getD_eq_getElem?_getD,hl,hd.2]
  have hR1:Regs (setX xs d 65540):=hR.set (d:Int) 65540 (by omega) (by omega)
  refine ⟨?_,?_,hx⟩
  · have h1:=DoIs.jal (L:=l3) (M:=M) (s:=⟨65536,xs,0,0⟩) (i:=⟨3,(d:Nat),0,0,((2 * q:Nat):Int),0,4⟩) rfl
    have e1:IntKind.u64.wrap (65536 + IntKind.u64.wrap ((2 * q:Nat):Int)) = 65536 + 2 * (q:Int):=by rw [IntKind.wrap_u64,IntKind.wrap_u64];omega
    have e2:St.nxt ⟨65536,xs,0,0⟩ ⟨3,(d:Nat),0,0,((2 * q:Nat):Int),0,4⟩ = 65540:=show IntKind.u64.wrap (65536 + IntKind.u64.wrap 4) = 65540 by decide
    simp only [e1,e2] at h1
    exact MacIs.go _ _ _ _ _ _ a1 rfl h1
  · have h1:=DoIs.jalr (L:=l3) (M:=M) (s:=⟨65536 + 2 * (q:Int),setX xs d 65540,0,0⟩) (i:=⟨4,0,(d:Nat),0,0,0,4⟩) rfl
    have e1:adr (setX xs d 65540) ⟨4,0,(d:Nat),0,0,0,4⟩ = 65540:=by
      unfold adr rx
      rw [show ((⟨4,0,(d:Nat),0,0,0,4⟩:Td.Ins).r1).toNat = d by simp,hx]
      exact (show IntKind.u64.wrap (65540 + IntKind.u64.wrap 0) = 65540 by decide)
    have e2:∀ y,setX (setX xs d 65540) 0 y = setX xs d 65540:=fun y=>setX_zero hR1 y
    simp only [e1,e2] at h1
    have hpc:((65536 + 2 * (q:Int)).toNat) = 65536 + 2 * q:=by omega
    exact MacIs.go _ _ _ _ _ _ (by show AnsIs l3 M ((65536 + 2 * (q:Int)).toNat) _;rw [hpc];exact a2) rfl h1
theorem wrap64_id {x:Int} (h:-9223372036854775808 ≤ x∧x ≤ 9223372036854775807):RowKit.wrap64 x = x:=by
  unfold RowKit.wrap64
  omega
theorem jump_far {to:Int} (h:-32768 ≤ to∧to ≤ 32767):∃ j:Nat,j ≤ 249∧((RowKit.wrap64 (to.tdiv 4 * 4)).tmod 1000 = 4 * (j:Int) ∨ (0 < j∧(RowKit.wrap64 (to.tdiv 4 * 4)).tmod 1000 = -(4 * (j:Int)))):=by
  rcases (by omega:0 ≤ to ∨ to < 0) with h0 | h0
  · rw [Int.tdiv_eq_ediv_of_nonneg h0,wrap64_id (by omega),Int.tmod_eq_emod_of_nonneg (by omega)]
    exact ⟨(to / 4 * 4 % 1000 / 4).toNat,by omega,.inl (by omega)⟩
  · obtain ⟨t,rfl⟩:∃ t:Int,to = -t:=⟨-to,by omega⟩
    rw [Int.neg_tdiv,Int.tdiv_eq_ediv_of_nonneg (by omega),Int.neg_mul,wrap64_id (by omega),Int.neg_tmod,Int.tmod_eq_emod_of_nonneg (by omega)]
    refine ⟨(t / 4 * 4 % 1000 / 4).toNat,by omega,?_⟩
    omega
structure CodeAt (wr:World) (B:Option Addr) (m c:Nat) (J:Int) (xs:List Int):Prop where
  rd:Rd wr B xs
  len:xs.length = m
  cap:m ≤ c
  nil:B = none → c = 0
  first:∀ t,t < 4 → xs.getD t 0 = (putB J 4).getD t 0
  bd:∀ t,0 ≤ xs.getD t 0∧xs.getD t 0 ≤ 255
theorem append_bd {xs:List Int} (h:∀ t,0 ≤ xs.getD t 0∧xs.getD t 0 ≤ 255) (x:Int) (t:Nat):0 ≤ (xs ++ putB x 4).getD t 0∧(xs ++ putB x 4).getD t 0 ≤ 255:=by
  by_cases ht:t < xs.length
  · rw [List.getD_eq_getElem?_getD,List.getElem?_append_left ht,← List.getD_eq_getElem?_getD];exact h t
  · rw [List.getD_eq_getElem?_getD,List.getElem?_append_right (by omega),← List.getD_eq_getElem?_getD];exact putB_bd _ _ _
theorem put4 (A:Option Addr) (len cap:Nat) (xs:List Int) (x:Int) (w:World) (hr:Rd w A xs) (hl:xs.length = len) (hc:A = none → cap = 0) (hm:len ≤ 5100) :
    Calls Tryz.prog 16 #[.slice A len cap,.int .u64 x,.int .i64 4] w fun e w'=>∃ B c m,e = .returned (.slice B m c)∧m = len + 4∧Rd w' B (xs ++ putB x 4)∧Bl w w'∧(B = none → c = 0)∧m ≤ c:=by
  refine (refPut_cap A len cap xs x 4 w hr hl hc hm (by decide) (by decide)).mono ?_
  rintro e w' ⟨B,c,h1,h2,h3,h4,h5⟩
  exact ⟨B,c,len + 4,h1,rfl,h2,h3,h4,h5⟩
theorem CodeAt.add {w wr:World} {B B':Option Addr} {m m' c c':Nat} {J x:Int} {xs:List Int} (h:CodeAt w B m c J xs) (h4:4 ≤ m) (hm:m' = m + 4) (hr:Rd wr B' (xs ++ putB x 4)) (hn:B' = none → c' = 0) (hc:m' ≤ c'):CodeAt wr B' m' c' J (xs ++ putB x 4):=by
  have hl:=h.len
  refine ⟨hr,by rw [List.length_append,putB_length,hl,hm],hc,hn,fun t ht=>?_,append_bd h.bd x⟩
  rw [← h.first t ht,List.getD_eq_getElem?_getD,List.getElem?_append_left (by omega),← List.getD_eq_getElem?_getD]
theorem add_last {xs:List Int} {m t:Nat} (hl:xs.length = m) (x:Int):(xs ++ putB x 4).getD (m + t) 0 = (putB x 4).getD t 0:=by
  rw [List.getD_eq_getElem?_getD,List.getElem?_append_right (by omega),← List.getD_eq_getElem?_getD,hl,Nat.add_sub_cancel_left]
theorem CodeAt.bytes {w:World} {B:Option Addr} {m c:Nat} {J:Int} {xs:List Int} (h:CodeAt w B m c J xs) (hm:0 < m∧m ≤ 8000):BytesIn w B m c xs:=by
  refine ⟨h.rd,h.len,h.cap,h.nil,h.bd,fun h0 ad e=>?_,by omega⟩
  obtain ⟨ad',e',hc⟩:=h.rd (by rw [h.len];exact h0)
  rw [e'] at e;cases e
  have:=block_lt_of_cell (hc 0 (by rw [h.len];exact h0))
  rwa [add_block] at this
theorem jumps_walk (w:World) (to rd:Int) (hto:-32768 ≤ to∧to ≤ 32767) (hrd:0 ≤ rd∧rd < 256) (hT:Td.TabsS w):Calls Tryz.prog 8 #[.int .i16 to,.int .u8 rd] w fun e w'=>e = .returned (.bool true)∧Bl w w':=by
  have HT:=hid hT;clear hT
  have HJ:=hid (jump_far hto)
  obtain ⟨t0,t1⟩:=hto
  obtain ⟨r0,r1⟩:=hrd
  go_enter Tryz.func8,Tryz.ntmps8
  go_upto_region 3 with (fail)
  obtain ⟨j,hj,hm⟩:=HJ.out
  obtain ⟨d,hd⟩:∃ d:Nat,rd % 31 + 1 = (d:Int):=⟨(rd % 31 + 1).toNat,by omega⟩
  have HD:Hid (1 ≤ d∧d < 32):=hid (by omega)
  have hd0:(1:Int) ≤ (d:Int):=by omega
  have hd1:(d:Int) < 32:=by omega
  rw [hd]
  generalize rd % 31 = rm at *
  clear hd HJ t0 t1 r0 r1
  generalize (RowKit.wrap64 (to.tdiv 4 * 4)).tmod 1000 = m at *
  have hj0:(0:Int) ≤ (j:Int):=by omega
  have hj1:(j:Int) ≤ 249:=by omega
  rcases hm with hm | ⟨hjp,hm⟩
  case' inl =>
    subst hm
    go_upto_region 6 with (fail)
  case' inr =>
    have hjp':(0:Int) < (j:Int):=by omega
    subst hm
    go_upto_region 6 with (fail)
    clear hjp hjp'
  all_goals (
    obtain ⟨q,hq⟩:∃ q:Nat,4 * (j:Int) + 8 = 2 * (q:Int):=⟨2 * j + 4,by omega⟩
    have HQ:Hid (4 ≤ q∧q < 503∧q % 2 = 0):=hid (by omega)
    rw [hq]
    have hq0:(4:Int) ≤ (q:Int):=by omega
    have hq1:(q:Int) < 503:=by omega
    clear hq hj hj0 hj1
    have cj:=jal_any d q HD.out.2 HQ.out.2.1 w
    go_wp2_with fail
    with_reducible refine cj.mono ?_
    rintro e w' ⟨rfl,rfl⟩
    have cp:=put4 none 0 0 [] ((q:Int) * 2097152 + (d:Int) * 128 + 111) w (fun h=>absurd h (by decide)) rfl (fun _=>rfl) (by decide)
    go_wp2_with fail
    with_reducible refine cp.mono ?_
    rintro e w1 ⟨B0,c0,m0,rfl,hm0,hrd,hbl,hnn,hcc⟩
    rw [List.nil_append] at hrd
    have CD:Hid (CodeAt w1 B0 m0 c0 ((q:Int) * 2097152 + (d:Int) * 128 + 111) (putB ((q:Int) * 2097152 + (d:Int) * 128 + 111) 4)):=hid ⟨hrd,by rw [putB_length,hm0],hcc,hnn,fun t ht=>rfl,putB_bd _ 4⟩
    have B1:=hid hbl
    have M0:=hid hm0
    clear hrd hbl hnn hcc cp cj hm0
    go_upto_region 7 with (fail)
    go_loopw [7] (fun i wr=>∃ (B:Option Addr) (m c:Nat) (xs:List Int),i = .slice B m c∧4 ≤ m∧m ≤ 2 * q∧m % 4 = 0∧CodeAt wr B m c ((q:Int) * 2097152 + (d:Int) * 128 + 111) xs∧Bl w wr) (fun i _=>2 * q - (match i with | .slice _ m _=>m | _=>0))
    case atStart=>exact ⟨B0,m0,c0,_,rfl,by have:=M0.out;omega,by have:=M0.out;have:=HQ.out;omega,by have:=M0.out;omega,CD.out,B1.out⟩
    case round =>
      clear CD B1
      obtain ⟨B,m,c,xs,rfl,hm4,hmq,hmm,hcd,hbl⟩:=hrel
      have CD:=hid hcd;clear hcd
      have B1:=hid hbl;clear hbl
      have hm0:(4:Int) ≤ (m:Int):=by omega
      by_cases hlt:m < 2 * q
      · have hltI:(m:Int) < 2 * (q:Int):=by omega
        have cp:=put4 B m c xs 19 wr CD.out.rd CD.out.len CD.out.nil (by have:=HQ.out;omega)
        go_wp2_with fail
        with_reducible refine cp.mono ?_
        rintro e w2 ⟨B2,c2,m2,rfl,hm2,hrd,hbl,hnn,hcc⟩
        have CD2:=hid (CD.out.add hm4 hm2 hrd hnn hcc)
        have B2_:=hid (B1.out.trans hbl)
        have HM:=hid (And.intro hlt hm2)
        clear hrd hbl hnn hcc cp hm2 hlt
        go_wp2_with fail
        have:=HM.out
        have:=HQ.out
        refine ⟨⟨B2,m2,c2,_,rfl,by omega,by omega,by omega,CD2.out,B2_.out⟩,?_⟩
        show 2 * q - m2 < 2 * q - m
        omega
      · have hlt':¬ (m:Int) < 2 * (q:Int):=by omega
        have HM:Hid (m = 2 * q):=hid (by omega)
        have bj:=jalr_bits d HD.out.2
        have cp:=put4 B m c xs ((d:Int) * 32768 + 103) wr CD.out.rd CD.out.len CD.out.nil (by have:=HQ.out;omega)
        go_wp2_with fail
        with_reducible refine cp.mono ?_
        rintro e w2 ⟨B2,c2,m2,rfl,hm2,hrd,hbl,hnn,hcc⟩
        have CD2:=hid (CD.out.add hm4 hm2 hrd hnn hcc)
        have XL:=hid CD.out.len
        have B2_:=hid (B1.out.trans hbl)
        have M2:=hid hm2
        clear hrd hbl hnn hcc cp hm2 CD B1
        have cm:=machines_any (R:=none) (rl:=0) (rc:=0) (rs:=fun _=>0) w2 (CD2.out.bytes (by have:=M2.out;have:=HM.out;have:=HQ.out;omega)) (by have:=M2.out;have:=HM.out;have:=HQ.out;omega) (fun h=>absurd h (by decide)) (by decide) true
        have CM:=hid cm;clear cm
        go_wp2_with fail
        with_reducible refine CM.out.mono ?_
        rintro e w3 ⟨hb,kb,sb,rb,cb,Bb,n,M,st,K,rfl,hpr,hmd⟩
        have PR:=hid hpr;clear hpr
        have hR:=rg_regs 0 (fun _=>0) 32 (fun j hj=>absurd hj (by omega))
        have SO:=hid (hmd.solo hR (HT.out.bl B2_.out))
        have B3:=hid (B2_.out.trans hmd.bl)
        have LO:=hid (And.intro hmd.lo.1 hmd.lo.2.2.2)
        have OLD:=hid (fun x (hx:x < w.heap.size)=>hmd.old x (Nat.lt_of_lt_of_le hx B2_.out.size))
        have LE:=hid hmd.le
        have W2:=hid B2_.out.size
        have JM:=hid (jump_macs (M:=M) HD.out ⟨HQ.out.1,HQ.out.2.1⟩ HQ.out.2.2 hR (fun t ht=>by rw [put_at PR.out (by have:=M2.out;have:=HM.out;have:=HQ.out;omega) t (by have:=M2.out;omega)];exact CD2.out.first t ht) (fun t ht=>by
          have h1:=put_at PR.out (by have:=M2.out;have:=HM.out;have:=HQ.out;omega) (m + t) (by have:=M2.out;omega)
          rw [show 65536 + 2 * q + t = 65536 + (m + t) by have:=HM.out;omega,h1]
          exact add_last XL.out _))
        have RL:=hid hR.len
        clear hmd CM hR CD2 PR XL
        generalize rg 0 (fun _=>0) 32 = r0 at *
        unfold addr0
        go_wp2_with fail
        with_reducible refine (answers_any w3 SO.out.tabs).mono ?_
        rintro e wa ⟨rfl,ka⟩
        obtain ⟨K1,s1,i1,_⟩:=SO.out.more ka
        have SA:=hid s1;clear s1
        have OLD1:=hid (fun x hx=>i1 x (OLD.out x hx))
        have B4:=hid (B3.out.trans ka)
        have hk:=stop_kind 0 0 0
        have cs:=SA.out.step (by have:=LE.out;omega)
        unfold addr0 at cs
        clear ka i1 SO OLD B3
        go_wp2_with fail
        with_reducible refine cs.mono ?_
        rintro e wb ⟨k,fk,fa,s',M',st',g1,rfl,g2,g3⟩
        obtain ⟨rfl,rfl,rfl,rfl,rfl⟩:=g1.one JM.out.1
        have B5:=hid (bl_fr' B4.out g3 (fun x hx=>no3 (OLD1.out x hx) (by have:=LO.out;have:=W2.out;omega) (by have:=LO.out;have:=W2.out;omega)))
        have SB:=hid g2
        clear g1 g2 g3 cs B4 SA
        unfold stopV
        have hyl:=SB.out.regs.len
        have hyd:=JM.out.2.2
        have MJ:=hid JM.out.2.1
        clear JM
        simp only at hyl
        generalize setX r0 (d:Int) 65540 = ys at *
        have ct:=SB.out.state
        unfold addr0 at ct
        go_wp2_with fail
        with_reducible refine ct.mono ?_
        rintro e wc ⟨rfl,kc⟩
        simp only
        have hsn:=store47new wc (65536 + 2 * (q:Int)) ys 0 0 hyl
        go_upto_region 14 with (first | (refine wplS _ rfl (.tmp 10) (.tmp 57) 47 rfl _ _ rfl rfl hsn ?_) | fail)
        (try simp only [Act.put])
        have kx:=kc.trans (Bl.new wc (.cells (stV (65536 + 2 * (q:Int)) ys 0 0).toArray 47))
        obtain ⟨K2,s2,i2,_⟩:=SB.out.more kx
        have SC:=hid s2;clear s2
        have OLD2:=hid (fun x hx=>i2 x (OLD1.out x hx))
        have B6:=hid (B5.out.trans kx)
        have S10:=hid (st_new wc (65536 + 2 * (q:Int)) ys 0 0 hyl)
        clear hsn ct kx kc i2 SB OLD1 B5
        generalize wc.alloc (.cells (stV (65536 + 2 * (q:Int)) ys 0 0).toArray 47) = V at *
        generalize wc.heap.size = t10 at *
        have p0:=S10.out.pc_
        have x0:=S10.out.x d HD.out.2
        rw [hyd] at x0
        have cs:=SC.out.step (by have:=LE.out;omega)
        unfold addr0 at cs
        go_wp2_with fail
        with_reducible refine cs.mono ?_
        rintro e wd ⟨k,fk,fa,s',M',st',g1,rfl,g2,g3⟩
        obtain ⟨rfl,rfl,rfl,rfl,rfl⟩:=g1.one MJ.out
        have B7:=hid (bl_fr' B6.out g3 (fun x hx=>no3 (OLD2.out x hx) (by have:=LO.out;have:=W2.out;omega) (by have:=LO.out;have:=W2.out;omega)))
        have ct:=g2.state
        unfold addr0 at ct
        have hp:=state_pc 65540 ys 0 0
        clear g1 g2 g3 cs p0 x0
        unfold stopV
        go_wp2_with fail
        with_reducible refine ct.mono ?_
        rintro e we ⟨rfl,ke⟩
        have B8:=hid (B7.out.trans ke)
        go_wp2_with fail
        go_ret
        exact ⟨rfl,B8.out⟩)
end Go.Proofs.YtlhpodholnfppaaGreatDoor
