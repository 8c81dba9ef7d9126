/-
  Write: bytes laid at a place, page by page.
  Read: the bytes from a place on.
  What Lay makes: facts ahead of its walk.
-/
import Derived.Test.YtbngjbmfkekdnaaGreatDoorT4
import Derived.Test.YtbngjbmfkekdnaaGreatDoorT3
import Derived.Lib.Hide
set_option linter.unusedVariables false
set_option linter.unusedSimpArgs false
set_option maxHeartbeats 16000000
open Go.Lib (hid)
namespace Go.Proofs.YtbngjbmfkekdnaaGreatDoor
open Go.RowKit
set_option maxRecDepth 100000

def cnt (f:Nat → Option Nat) (a:Nat):Nat → Nat
  | 0=>0
  | m + 1=>cnt f a m + (if (f (a + m)).isSome then 0 else 1)
structure Held (f f':Nat → Option Nat) (k k' a m:Nat):Prop where
  some_:∀ p,(f' p).isSome = ((f p).isSome || decide (a ≤ p∧p < a + m))
  count:k' = k + cnt f a m
theorem Held.none_ (f:Nat → Option Nat) (k a:Nat):Held f f k k a 0:=⟨fun p=>by rw [decide_eq_false (by omega)];simp,rfl⟩
theorem Held.next {f g:Nat → Option Nat} {k k1 a j:Nat} (h:Held f g k k1 a j) (b:Nat):Held f (hf g (a + j) b) k (hk g (a + j) k1) a (j + 1):=by
  have hs:(g (a + j)).isSome = (f (a + j)).isSome:=by rw [h.some_];rw [decide_eq_false (by omega)];simp
  refine ⟨fun p=>?_,?_⟩
  · unfold hf
    by_cases e:p = a + j
    · subst e
      rw [decide_eq_true (by omega)]
      rcases hc:(g (a + j)).isSome with _ | _
      · simp [put1_same]
      · simp [hc]
    · have:decide (a ≤ p∧p < a + (j + 1)) = decide (a ≤ p∧p < a + j):=by
        by_cases h1:a ≤ p∧p < a + j
        · rw [decide_eq_true h1,decide_eq_true (by omega)]
        · rw [decide_eq_false h1,decide_eq_false (by omega)]
      rw [this,← h.some_]
      split
      · rfl
      · rw [put1_other _ _ _ e]
  · unfold hk
    simp only [cnt]
    rw [hs,h.count]
    split <;> omega

theorem SA.copyRun {Y:Rest} {S:Nat → Prop} {w:World} {sb n k:Nat} {f:Nat → Option Nat} {M st:Nat → Int} {pm sm:Value} {c l:Int} (h:SA Y S w sb n f k M st pm sm c l) {num b off:Nat} (hb:f num = some b) (hoff:off < 4096)
    (A:Option Addr) (sLen sCap:Nat) (zs:List Int) (hr:Rd w A zs) (hl:zs.length = sLen) (h0:0 < sLen) (ty:TypeId) :
    ∃ (w':World) (dn:Nat),dn = min sLen (4096 - off)∧(Builtin.copy_ #[22,22] ty #[.slice (some ⟨b,off,none⟩) (4096 - off) (4096 - off),.slice A sLen sCap]).run Tryz.prog w = .ok (.int .i64 (dn:Int)) w' ∧
      SA Y S w' sb n f k (lay M (num * 4096 + off) (zs.take dn)) st pm sm c l∧Fr S w w':=by
  obtain ⟨ad,rfl,hc⟩:=hr (by omega)
  have hz:(zs.take (min sLen (4096 - off))).length = min sLen (4096 - off):=by rw [List.length_take,hl];omega
  have hbb:=(h.at_ num b hb).2
  have hrun:=run_copy_row (P:=Tryz.prog) w 22 22 ty 5 b off (4096 - off) (4096 - off) ad sLen sCap _ 138 (asBytes (zs.take (min sLen (4096 - off)))) Tryz.underlying22 sizeByte hbb (by rw [asBytes_length,hz]) (fun j v hj=>by
    obtain ⟨h1,rfl⟩:=asBytes_get _ _ _ hj
    rw [hz] at h1
    rw [hc j (by omega),List.getD_eq_getElem?_getD,List.getD_eq_getElem?_getD,List.getElem?_take_of_lt h1]) (by rw [asBytes_length,hz,List.size_toArray,asBytes_length,pageOf_length];omega) (bytes_one _)
  rw [asBytes_length,hz] at hrun
  refine ⟨_,_,rfl,hrun,h.write hb (by rw [hz];omega) ?_ ?_,?_⟩
  · exact ⟨rfl,rfl,rfl,by simp [World.setRow],fun x _ hne=>setRow_other w b x _ (fun e=>hne (by rw [e]))⟩
  · rw [setRow_heap w b _ _ 138 _ hbb]
    simp only [splice,asBytes,List.map_append,List.map_take,List.map_drop,hz,List.append_assoc]
  · exact ⟨rfl,rfl,rfl,by simp [World.setRow],fun x _ hne=>setRow_other w b x _ (fun e=>hne (by rw [e];exact (h.at_ num b hb).1))⟩
theorem slice53 (b off:Nat) (h:off < 4096) (w:World):(Instr.sliceAt 138 (.pointer (some ⟨b,0,none⟩)) (some (.int .u64 (off:Int))) none none).run Tryz.prog w = .ok (.slice (some ⟨b,off,none⟩) (4096 - off) (4096 - off)) w:=by
  obtain ⟨i0,hi0,hz0,hz1,hz2⟩:=info_parts infoByte
  have h1:(0:Int) ≤ (off:Int)∧(off:Int) ≤ ((4096:Nat):Int):=by omega
  have h2:¬ 4096 = off:=by omega
  have hadd:(⟨b,0,none⟩:Addr).add off = ⟨b,off,none⟩:=by unfold Addr.add;split <;> simp_all
  simp [Instr.sliceAt,run_underlying Tryz.underlying138,Instr.sureAddr,Instr.sliceBounds,Instr.sliceBound,asIntOf,sizeOf,typeInfo,hi0,hz1,h1,h2,hadd,Result.andThen]
  rw [if_pos (by omega)]
  simp [h2,hadd]
def lenV:Value → Nat | .slice _ n _=>n | _=>0
def pagesOf (addr r:Nat):Nat:=if r = 0 then 0 else (addr + r - 1) / 4096 + 1 - addr / 4096
def WritePost (Y:Rest) (S:Nat → Prop) (w:World) (sb n:Nat) (f:Nat → Option Nat) (k:Nat) (M st:Nat → Int) (addr:Nat) (ys:List Int) (e:Ending) (w':World):Prop:=
  e = .returned (.tuple #[])∧∃ f' k' st',StoreAt Y S w' sb (n + 3 * pagesOf addr ys.length) f' k' (lay M addr ys) st'∧Fr S w w'∧Held f f' k k' (addr / 4096) (pagesOf addr ys.length)∧Rise st st' (fun p=>addr / 4096 ≤ p∧p < addr / 4096 + pagesOf addr ys.length)
theorem Rd.fr {S:Nat → Prop} {w w':World} {A:Option Addr} {xs:List Int} (h:Rd w A xs) (hf:Fr S w w') (hA:0 < xs.length → ∀ ad,A = some ad → ¬ S ad.block):Rd w' A xs:=by
  intro h0
  obtain ⟨ad,rfl,hc⟩:=h h0
  refine ⟨ad,rfl,fun i hi=>?_⟩
  have h1:=hc i hi
  rw [World.cell?_of_block (w:=w) (hf.block _ (block_lt_of_cell h1) (by rw [add_block];exact hA h0 ad rfl))]
  exact h1
theorem Rd.take {w:World} {A:Option Addr} {xs:List Int} (h:Rd w A xs) (k:Nat):Rd w A (xs.take k):=by
  intro h0
  rw [List.length_take] at h0
  obtain ⟨ad,rfl,hc⟩:=h (by omega)
  refine ⟨ad,rfl,fun i hi=>?_⟩
  rw [List.length_take] at hi
  rw [hc i (by omega),List.getD_eq_getElem?_getD,List.getD_eq_getElem?_getD,List.getElem?_take_of_lt (by omega)]
structure WR (Y:Rest) (S:Nat → Prop) (w:World) (sb n:Nat) (f:Nat → Option Nat) (k:Nat) (M st:Nat → Int) (addr:Nat) (ys:List Int) (j t:Nat) (wr:World) (A:Option Addr) (cap:Nat):Prop where
  le:t ≤ ys.length
  cap_:ys.length - t ≤ cap
  rd:Rd wr A (ys.drop t)
  out:t < ys.length → ∀ ad,A = some ad → ¬ S ad.block
  at_:∃ f' k' st',StoreAt Y S wr sb (n + 3 * j) f' k' (lay M addr (ys.take t)) st'∧Held f f' k k' (addr / 4096) j∧Rise st st' (fun p=>addr / 4096 ≤ p∧p < addr / 4096 + j)
  fr:Fr S w wr
  page:t < ys.length → (addr + t) / 4096 = addr / 4096 + j
  done:(t = 0∧j = 0) ∨ (0 < t∧(addr + t - 1) / 4096 + 1 = addr / 4096 + j)
theorem WR.step {Y:Rest} {S:Nat → Prop} {w:World} {sb n k:Nat} {f:Nat → Option Nat} {M st:Nat → Int} {addr:Nat} {ys:List Int} {j t:Nat} {wr:World} {B:Option Addr} {cp:Nat} (h:WR Y S w sb n f k M st addr ys j t wr B cp) (hlt:t < ys.length)
    {f1:Nat → Option Nat} {k1:Nat} {st1 st2:Nat → Int} (hris:Rise st st1 (fun p=>addr / 4096 ≤ p∧p < addr / 4096 + j)) (hheld:Held f f1 k k1 (addr / 4096) j) {num off dn b:Nat} (hnum:num = (addr + t) / 4096) (hoff:off = (addr + t) % 4096) (hdn:dn = min (ys.length - t) (4096 - off)) {w3:World}
    (hst:StoreAt Y S w3 sb (n + 3 * j + 1 + 2) (hf f1 num b) (hk f1 num k1) (lay (lay M addr (ys.take t)) (num * 4096 + off) ((ys.drop t).take dn)) st2) (hris2:Rise st1 st2 (fun p=>p = num)) (fr:Fr S wr w3) :
    WR Y S w sb n f k M st addr ys (j + 1) (t + dn) w3 (if cp = dn then B else B.map (·.add dn)) (cp - dn):=by
  have hpage:=h.page hlt
  have hcap:=h.cap_
  have hle:=h.le
  have hd0:0 < dn:=by omega
  have hd1:dn ≤ ys.length - t:=by omega
  refine ⟨by omega,by omega,?_,?_,⟨hf f1 num b,hk f1 num k1,st2,?_,?_,?_⟩,h.fr.trans fr,fun hx=>?_,.inr ⟨by omega,?_⟩⟩
  · have h1:=(h.rd.fr fr (fun h0=>h.out hlt)).drop dn cp (by rw [List.length_drop];omega) (by rw [List.length_drop];omega)
    rw [List.drop_drop] at h1
    exact h1
  · intro _ ad had
    split at had
    · exact h.out hlt ad had
    · rcases B with _ | a0
      · cases had
      · simp only [Option.map_some,Option.some.injEq] at had
        subst had
        rw [add_block]
        exact h.out hlt a0 rfl
  · have e1:lay (lay M addr (ys.take t)) (num * 4096 + off) ((ys.drop t).take dn) = lay M addr (ys.take (t + dn)):=by
      have e2:num * 4096 + off = addr + (ys.take t).length:=by rw [List.length_take];omega
      rw [e2,lay_lay,List.take_add]
    rw [e1] at hst
    exact hst.mono (by omega)
  · have e3:num = addr / 4096 + j:=by omega
    rw [e3]
    exact hheld.next b
  · exact (hris.trans hris2).mono fun p hp=>by
      by_cases e:p = num
      · exact .inr e
      · exact .inl (by omega)
  · omega
  · omega
theorem write_any {Y:Rest} {S:Nat → Prop} {w:World} {sb n k:Nat} {f:Nat → Option Nat} {M st:Nat → Int} (h:StoreAt Y S w sb n f k M st) (addr:Nat) (A:Option Addr) (len cap:Nat) (xs:List Int) (hr:Rd w A xs) (hl:xs.length = len) (hlc:len ≤ cap)
    (hA:0 < len → ∀ ad,A = some ad → ¬ S ad.block) (ha:addr < 2 ^ 64) (hlen:len ≤ 4194304) (hn:n < 90000000) (hS:∀ b,w.heap.size ≤ b → S b) :
    Calls Tryz.prog 33 #[.pointer (some ⟨sb,1,none⟩),.int .u64 (addr:Int),.slice A len cap] w (WritePost Y S w sb n f k M st addr (xs.take (room addr len))):=by
  have cb:=below_any addr len w (by omega)
  have hroom:room addr len ≤ len:=Nat.min_le_left _ _
  have hrin:room addr len ≤ 274877906944 - addr:=Nat.min_le_right _ _
  have hy:(xs.take (room addr len)).length = room addr len:=by rw [List.length_take];omega
  have hry:=hr.take (room addr len)
  generalize room addr len = R at *
  generalize xs.take R = ys at *
  have hx0:(0:Int) ≤ (addr:Int):=by omega
  have hx1:(addr:Int) ≤ 18446744073709551615:=by omega
  have hlI:(len:Int) ≤ 4194304:=by omega
  have hRl:(R:Int) ≤ (len:Int):=by omega
  have hRc:(R:Int) ≤ (cap:Int):=by omega
  have HA:=hid ha;clear ha
  have HRI:=hid hrin;clear hrin
  have HLN:=hid hlen;clear hlen
  have HH:=hid h;clear h
  have CB:=hid cb;clear cb
  have HY:=hid hy;clear hy
  have HRY:=hid hry;clear hry
  have HL:=hid hl;clear hl
  have HR:=hid hr;clear hr
  have HS:=hid hS;clear hS
  have HAA:=hid hA;clear hA
  have HN:=hid hn;clear hn
  (try unfold addr0)
  obtain ⟨x,hx⟩:∃ x:Int,x = (addr:Int):=⟨_,rfl⟩
  rw [← hx] at hx0 hx1 CB ⊢
  have HX:=hid hx;clear hx
  go_enter Tryz.func33,Tryz.ntmps33
  go_wp2_with fail
  refine CB.out.mono ?_
  rintro e w' ⟨rfl,rfl⟩
  go_wp2_with fail
  clear hlI
  go_loopw [1,2,6,7] (fun v1 v2 _ _ wr=>∃ (j t cp:Nat) (B:Option Addr),v1 = .int .u64 ((addr + t:Nat):Int)∧v2 = .slice B (R - t) cp∧WR Y S w sb n f k M st addr ys j t wr B cp) (fun _ v2 _ _ _=>lenV v2)
  case atStart =>
    refine ⟨0,0,cap,A,?_,rfl,?_⟩
    · rw [HX.out];rfl
    · exact ⟨Nat.zero_le _,by rw [HY.out];omega,HRY.out,(fun h0=>HAA.out (by rw [HY.out] at h0;omega)),⟨f,k,st,by simpa [lay_nil] using HH.out,Held.none_ f k _,(Rise.refl st).mono fun p hp=>by omega⟩,Fr.refl _ _,fun _=>by simp,.inl ⟨rfl,rfl⟩⟩
  case round =>
    obtain ⟨j,t,cp,B,rfl,rfl,hw⟩:=hrel
    clear hx0 hx1 CB HX
    by_cases hlt:t < R
    · have hrl:0 < R - t:=by omega
      have hrlI:(0:Int) < ((R - t:Nat):Int):=by omega
      have hpage:=hw.page (by rw [HY.out];exact hlt)
      obtain ⟨num,hnum⟩:∃ num,num = (addr + t) / 4096:=⟨_,rfl⟩
      obtain ⟨off,hoff⟩:∃ off,off = (addr + t) % 4096:=⟨_,rfl⟩
      obtain ⟨x,hx⟩:∃ x:Int,x = ((addr + t:Nat):Int):=⟨_,rfl⟩
      have hxn:x / 4096 = (num:Int):=by omega
      have hxo:x % 4096 = (off:Int):=by omega
      have hx0:0 ≤ x:=by omega
      have hx1:x ≤ 274877906944:=by have:=HRI.out;omega
      have ho:(off:Int) < 4096:=by omega
      rw [← hx]
      have HX:=hid hx;clear hx
      have HNUM:=hid hnum;clear hnum
      have HOFF:=hid hoff;clear hoff
      have HP:=hid hpage;clear hpage
      obtain ⟨f1,k1,st1,hst,hheld,hris⟩:=hw.at_
      have HW:=hid hw;clear hw
      have HST:=hid hst;clear hst
      have HHELD:=hid hheld;clear hheld
      have HRIS:=hid hris;clear hris
      go_wp2_with fail
      have hj:j ≤ 1100:=by
        have h1:=HW.out.done
        have h2:=HLN.out
        have h3:=hroom
        rcases h1 with ⟨_,h1⟩ | ⟨_,h1⟩ <;> omega
      have hNlim:num < 67108864:=by
        have h1:=HRI.out;have h2:=HNUM.out;omega
      have hSr:∀ b,wr.heap.size ≤ b → S b:=fun b hb=>HS.out b (Nat.le_trans HW.out.fr.size hb)
      have hN:=HN.out
      refine (hold_any HST.out num hNlim (by omega) hSr).mono ?_
      rintro e w1 ⟨b,rfl,hst1,hb1,fr1⟩
      obtain ⟨pm,sm,c,l,hsa⟩:=hst1
      have rd1:=HW.out.rd.fr fr1 (fun _=>HW.out.out (by rw [HY.out];exact hlt))
      have hzl:(ys.drop t).length = R - t:=by rw [List.length_drop,HY.out]
      have hoffN:off < 4096:=by omega
      have hSr1:=hSr
      clear hSr hN hNlim
      have HSA:=hid hsa;clear hsa
      have HB1:=hid hb1;clear hb1
      have RD1:=hid rd1;clear rd1
      have HZ:=hid hzl;clear hzl
      have FR1:=hid fr1;clear fr1
      have HJ:=hid hj;clear hj
      have HSR:=hid hSr1;clear hSr1
      have hsl:=slice53 b off hoffN
      obtain ⟨w2,dn,hdn,hcp,hsa2,fr2⟩:=HSA.out.copyRun HB1.out hoffN B (R - t) cp _ RD1.out HZ.out hrl 3
      have HDN:=hid hdn;clear hdn
      have HSA2:=hid hsa2;clear hsa2
      have FR2:=hid fr2;clear fr2
      have hd1:dn ≤ R - t:=by rw [HDN.out];omega
      have hdI:(dn:Int) ≤ ((R - t:Nat):Int):=by omega
      have hdc:(dn:Int) ≤ (cp:Int):=by have:=HW.out.cap_;rw [HY.out] at this;omega
      (try unfold addr0)
      go_wp2_with fail
      have hN:=HN.out
      have hJ:=HJ.out
      have hs2:S w2.heap.size:=HSR.out _ (Nat.le_trans FR1.out.size FR2.out.size)
      refine (stamp_any ⟨_,_,_,_,HSA2.out⟩ num (by have:=HNUM.out;have:=HRI.out;omega) (by omega) hs2).mono ?_
      rintro e w3 ⟨rfl,⟨st3,hst3,hris3⟩,fr3⟩
      have hstep:=HW.out.step (by rw [HY.out];exact hlt) HRIS.out HHELD.out HNUM.out HOFF.out (by rw [HY.out];exact HDN.out) hst3 hris3 ((FR1.out.trans FR2.out).trans fr3)
      have HSTEP:=hid hstep;clear hstep hst3 hris3 fr3 hN hJ hs2 hcp hsl
      have hdx:x + (dn:Int) ≤ 274877906944:=by have:=HX.out;have:=HRI.out;omega
      go_wp2_with fail
      refine ⟨⟨j + 1,t + dn,cp - dn,_,?_,?_,HSTEP.out⟩,?_⟩
      · rw [HX.out];congr 1;omega
      · congr 1;omega
      · simp only [lenV]
        have h1:=HDN.out
        omega
    · have hw':=hw
      have ht:t = R:=by have:=hw.le;rw [HY.out] at this;omega
      have HW:=hid hw;clear hw hw'
      have HT:=hid ht
      have h0:R - t = 0:=by omega
      rw [h0]
      clear ht hlt h0
      have CNT:=hid hroom
      go_wp2_with fail
      go_end0
      refine ⟨rfl,?_⟩
      obtain ⟨f',k',st',hst,hheld,hris⟩:=HW.out.at_
      have hj:pagesOf addr ys.length = j:=by
        have h1:=HW.out.done
        rw [HT.out] at h1
        unfold pagesOf
        rw [HY.out]
        split
        · omega
        · rcases h1 with h1 | h1 <;> omega
      have hty:ys.take t = ys:=List.take_of_length_le (by rw [HY.out,HT.out];exact Nat.le_refl _)
      rw [hj]
      rw [hty] at hst
      exact ⟨f',k',st',hst,HW.out.fr,hheld,hris⟩
end Go.Proofs.YtbngjbmfkekdnaaGreatDoor

namespace Go.Proofs.YtbngjbmfkekdnaaGreatDoor
open Go.RowKit
set_option maxRecDepth 100000
def bytesAt (M:Nat → Int) (addr m:Nat):List Int:=(List.range m).map fun i=>M (addr + i)
theorem bytesAt_length (M:Nat → Int) (addr m:Nat):(bytesAt M addr m).length = m:=by simp [bytesAt]
theorem bytesAt_get (M:Nat → Int) (addr m i:Nat) (h:i < m):(bytesAt M addr m)[i]? = some (M (addr + i)):=by simp [bytesAt,List.getElem?_range h]
theorem bytesAt_add (M:Nat → Int) (addr t d:Nat):bytesAt M addr (t + d) = bytesAt M addr t ++ bytesAt M (addr + t) d:=by
  simp only [bytesAt,List.range_add,List.map_append,List.map_map]
  congr 1
  apply List.map_congr_left
  intro i _
  simp [Nat.add_assoc]
theorem bytesAt_zero (M:Nat → Int) (addr d:Nat) (h:∀ i,i < d → M (addr + i) = 0):bytesAt M addr d = List.replicate d 0:=by
  apply List.ext_getElem?
  intro i
  by_cases hi:i < d
  · rw [bytesAt_get _ _ _ _ hi,h i hi,List.getElem?_replicate,if_pos hi]
  · rw [List.getElem?_eq_none (by rw [bytesAt_length];omega),List.getElem?_eq_none (by simp;omega)]
theorem made_bytes (n:Nat):madeCells #[.int .u8 0] n = (asBytes (List.replicate n 0)).toArray:=by
  apply Array.ext
  · simp [madeCells,asBytes]
  · intro i h1 h2
    simp [madeCells,asBytes,Nat.mod_one]
theorem made29 (m:Nat) (hm:m ≤ 4194304) (w:World):(Instr.makeSlice 22 (.int .i64 (m:Int)) (.int .i64 (m:Int))).run Tryz.prog w = .ok (.slice (some ⟨w.heap.size,0,none⟩) m m) (w.alloc (.cells (asBytes (List.replicate m 0)).toArray 5)):=by
  obtain ⟨i0,hi0,hz0,hz1,hz2⟩:=info_parts infoByte
  have h:=run_make (P:=Tryz.prog) w 22 5 i0 (.int .u8 0) Tryz.underlying22 hi0 hz0 .i64 .i64 m m (by omega) (by omega) (by rw [hz2];omega) (by omega)
  rw [← made_bytes]
  simpa [hz1,Value.cells] using h
def part (M:Nat → Int) (addr m t:Nat):List Int:=bytesAt M addr t ++ List.replicate (m - t) 0
theorem part_length (M:Nat → Int) (addr m t:Nat) (h:t ≤ m):(part M addr m t).length = m:=by simp [part,bytesAt_length];omega
theorem part_zero (M:Nat → Int) (addr m t d:Nat) (h:t + d ≤ m) (hz:∀ i,i < d → M (addr + t + i) = 0):part M addr m (t + d) = part M addr m t:=by
  unfold part
  rw [bytesAt_add,bytesAt_zero M (addr + t) d hz,List.append_assoc,List.replicate_append_replicate]
  congr 2;omega
theorem part_copy (M:Nat → Int) (addr m t d:Nat) (h:t + d ≤ m):splice (part M addr m t) t (bytesAt M (addr + t) d) = part M addr m (t + d):=by
  have e1:(part M addr m t).take t = bytesAt M addr t:=by
    unfold part;rw [List.take_append_of_le_length (by rw [bytesAt_length];exact Nat.le_refl _)];exact List.take_of_length_le (by rw [bytesAt_length];exact Nat.le_refl _)
  have e2:(part M addr m t).drop (t + d) = List.replicate (m - (t + d)) 0:=by
    unfold part
    rw [List.drop_append,List.drop_of_length_le (by rw [bytesAt_length];omega),List.nil_append,List.drop_replicate,bytesAt_length]
    congr 1;omega
  simp only [splice,bytesAt_length,e1,e2]
  unfold part
  rw [bytesAt_add,List.append_assoc]
theorem StoreAt.beyond {Y:Rest} {S:Nat → Prop} {w:World} {sb n k:Nat} {f:Nat → Option Nat} {M st:Nat → Int} (h:StoreAt Y S w sb n f k M st) (a:Nat) (ha:274877906944 ≤ a):M a = 0:=by
  obtain ⟨pm,sm,c,l,h⟩:=h
  have h1:f (a / 4096) = none:=by
    rcases e:f (a / 4096) with _ | b
    · rfl
    · have:=h.lim _ _ e;omega
  have:=h.zero (a / 4096) (a % 4096) h1 (by omega)
  rwa [show a / 4096 * 4096 + a % 4096 = a by omega] at this
theorem SA.readRun {Y:Rest} {S:Nat → Prop} {w w0:World} {sb n k:Nat} {f:Nat → Option Nat} {M st:Nat → Int} {pm sm:Value} {c l:Int} (h:SA Y S w sb n f k M st pm sm c l) {num b off:Nat} (hb:f num = some b) (g t dn dc m addr:Nat)
    (hg:w.heap[g]? = some (.cells (asBytes (part M addr m t)).toArray 5 (0,0))) (ht:t + dn ≤ m) (hoff:off + dn ≤ 4096) (he:num * 4096 + off = addr + t) (hbl:Bl w0 w) (hg0:w0.heap.size ≤ g) (ty:TypeId) :
    ∃ w',(Builtin.copy_ #[22,22] ty #[.slice (some ⟨g,t,none⟩) dn dc,.slice (some ⟨b,off,none⟩) (4096 - off) (4096 - off)]).run Tryz.prog w = .ok (.int .i64 (dn:Int)) w' ∧
      w'.heap[g]? = some (.cells (asBytes (part M addr m (t + dn))).toArray 5 (0,0))∧Bl w0 w':=by
  have hbb:=(h.at_ num b hb).2
  have hcl:(asBytes (bytesAt M (addr + t) dn)).length = dn:=by rw [asBytes_length,bytesAt_length]
  have hrun:=run_copy_row (P:=Tryz.prog) w 22 22 ty 5 g t dn dc ⟨b,off,none⟩ (4096 - off) (4096 - off) _ 5 (asBytes (bytesAt M (addr + t) dn)) Tryz.underlying22 sizeByte hg (by rw [hcl];exact (Nat.min_eq_right (by omega)).symm) (fun j v hj=>by
    obtain ⟨h1,rfl⟩:=asBytes_get _ _ _ hj
    rw [bytesAt_length] at h1
    have e1:(⟨b,off,none⟩:Addr).add j = ⟨b,off + j,none⟩:=by unfold Addr.add;split <;> simp_all
    rw [e1,cell_of_row w b (off + j) _ 138 (0,0) hbb]
    simp only [List.getElem?_toArray]
    rw [asBytes_at _ _ (by rw [pageOf_length];omega),List.getD_eq_getElem?_getD,pageOf_get _ _ _ (by omega),List.getD_eq_getElem?_getD,bytesAt_get _ _ _ _ h1]
    have e2:num * 4096 + (off + j) = addr + t + j:=by omega
    rw [e2]) (by rw [hcl,List.size_toArray,asBytes_length,part_length _ _ _ _ (by omega)];exact ht) (bytes_one _)
  rw [hcl] at hrun
  refine ⟨_,hrun,?_,below_setRow hbl hg0 _⟩
  rw [setRow_heap w g _ _ 5 _ hg,← part_copy M addr m t dn ht]
  simp only [splice,asBytes,List.map_append,List.map_take,List.map_drop,bytesAt_length,List.append_assoc]
theorem slice29to (A:Option Addr) (len cap k:Nat) (h:k ≤ cap) (w:World):(Instr.sliceAt 22 (.slice A len cap) none (some (.int .i64 (k:Int))) none).run Tryz.prog w = .ok (.slice A k cap) w:=by
  obtain ⟨i0,hi0,hz0,hz1,hz2⟩:=info_parts infoByte
  have hA:A.map (fun a=>a.add 0) = A:=by cases A <;> simp [Addr.add]
  have h1:(0:Int) ≤ (k:Int)∧(k:Int) ≤ (cap:Int):=by omega
  simp [Instr.sliceAt,Instr.slice,run_underlying Tryz.underlying22,Instr.sliceBounds,Instr.sliceBound,asIntOf,sizeOf,typeInfo,hi0,hz1,Result.andThen]
  rw [if_pos h]
  simp [hA]
section
variable {P:Program} (w:World) {ops:Array Oper} {rest:List Oper} {o:Oper} {a:Act} {Q:Exit → Act → World → Prop}
theorem wpl_copy_run {w1:World} (hg:o.guard = none) (d s:Operand) (dT sT:TypeId) (ho:o.op = .call { callee:=.builtin .copy,args:=#[d,s],argTypes:=#[dT,sT] }) (vd vs v1:Value) (hd:a.eval d = vd) (hs:a.eval s = vs)
    (hrun:(Builtin.copy_ #[dT,sT] o.type #[vd,vs]).run P w = .ok v1 w1) (hK:wpList P ops Q rest (a.put o.dst v1) w1):wpList P ops Q (o :: rest) a w:=by
  refine wpList_plain hg fun K hK'=>?_
  unfold Oper.wp
  simp [execOp,ho,resolve,invoke,builtin,hd,hs,hrun,Result.andThen]
  exact hK' _ _ hK
end
def ReadPost (w:World) (M:Nat → Int) (addr m:Nat) (e:Ending) (w':World):Prop:=
  e = .returned (.slice (some ⟨w.heap.size,0,none⟩) m m)∧w'.heap[w.heap.size]? = some (.cells (asBytes (bytesAt M addr m)).toArray 5 (0,0))∧Bl w w'
theorem read_any {Y:Rest} {S:Nat → Prop} {w:World} {sb n k:Nat} {f:Nat → Option Nat} {M st:Nat → Int} (h:StoreAt Y S w sb n f k M st) (addr m:Nat) (ha:addr < 2 ^ 64) (hm1:1 ≤ m) (hm:m ≤ 4194304) :
    Calls Tryz.prog 118 #[.pointer (some ⟨sb,1,none⟩),.int .u64 (addr:Int),.int .i64 (m:Int)] w (ReadPost w M addr m):=by
  have cb:=fun W=>below_any addr m W (by omega)
  have hroom:room addr m ≤ m:=Nat.min_le_left _ _
  have hrin:room addr m ≤ 274877906944 - addr:=Nat.min_le_right _ _
  have hrz:room addr m < m → 274877906944 ≤ addr + room addr m:=by unfold room;omega
  generalize room addr m = R at *
  have hx0:(0:Int) ≤ (addr:Int):=by omega
  have hx1:(addr:Int) ≤ 18446744073709551615:=by omega
  have hlI:(m:Int) ≤ 4194304:=by omega
  have hl1:(1:Int) ≤ (m:Int):=by omega
  have hRl:(R:Int) ≤ (m:Int):=by omega
  have hmk:=fun W=>made29 m hm W
  have HA:=hid ha;clear ha
  have HRI:=hid hrin;clear hrin
  have HRZ:=hid hrz;clear hrz
  have HH:=hid h;clear h
  have CB:=hid cb;clear cb
  (try unfold addr0)
  obtain ⟨x,hx⟩:∃ x:Int,x = (addr:Int):=⟨_,rfl⟩
  rw [← hx] at hx0 hx1 CB ⊢
  have HX:=hid hx;clear hx
  go_enter Tryz.func118,Tryz.ntmps118
  go_wp2_with fail
  refine (CB.out _).mono ?_
  rintro e w' ⟨rfl,rfl⟩
  go_wp2_with fail
  clear hmk CB hx0 hx1
  have h0:Bl w (w.alloc (.cells (asBytes (List.replicate m 0)).toArray 5)):=Bl.new _ _
  have hg0:(w.alloc (.cells (asBytes (List.replicate m 0)).toArray 5)).heap[w.heap.size]? = some (.cells (asBytes (part M addr m 0)).toArray 5 (0,0)):=by
    rw [heap_alloc_new];simp [part,bytesAt]
  have H0:=hid h0;clear h0
  have HG0:=hid hg0;clear hg0
  generalize w.alloc (.cells (asBytes (List.replicate m 0)).toArray 5) = W at *
  go_loopw [1,8,9,10] (fun v1 v8 _ _ wr=>∃ (t:Nat) (B:Option Addr),v1 = .int .u64 ((addr + t:Nat):Int)∧v8 = .slice B (R - t) (m - t)∧(t < R → B = some ⟨w.heap.size,t,none⟩)∧t ≤ R∧wr.heap[w.heap.size]? = some (.cells (asBytes (part M addr m t)).toArray 5 (0,0))∧Bl w wr) (fun _ v8 _ _ _=>lenV v8)
  case atStart=>exact ⟨0,_,by rw [HX.out];rfl,rfl,fun _=>rfl,Nat.zero_le _,HG0.out,H0.out⟩
  case round =>
    obtain ⟨t,B,rfl,rfl,hB,htR,hg,hbl⟩:=hrel
    clear HX
    have HG:=hid hg;clear hg
    have HBL:=hid hbl;clear hbl
    by_cases hlt:t < R
    · obtain rfl:=hB hlt
      clear hB
      have hrlI:(0:Int) < ((R - t:Nat):Int):=by omega
      obtain ⟨num,hnum⟩:∃ num,num = (addr + t) / 4096:=⟨_,rfl⟩
      obtain ⟨off,hoff⟩:∃ off,off = (addr + t) % 4096:=⟨_,rfl⟩
      obtain ⟨x,hx⟩:∃ x:Int,x = ((addr + t:Nat):Int):=⟨_,rfl⟩
      obtain ⟨dn,hdn⟩:∃ dn,dn = min (R - t) (4096 - off):=⟨_,rfl⟩
      have hxn:x / 4096 = (num:Int):=by omega
      have hxo:x % 4096 = (off:Int):=by omega
      have hx0:0 ≤ x:=by omega
      have hx1:x ≤ 274877906944:=by have:=HRI.out;omega
      have ho:(off:Int) < 4096:=by omega
      have hd0:(0:Int) ≤ (dn:Int):=by omega
      have hdx:x + (dn:Int) ≤ 274877906944:=by have:=HRI.out;omega
      have hdR:(dn:Int) ≤ ((R - t:Nat):Int):=by omega
      have hdm:(dn:Int) ≤ ((m - t:Nat):Int):=by omega
      have hmn:∀ W',(Builtin.min_ #[3,3] 3 #[.int .i64 ((R - t:Nat):Int),.int .i64 (4096 - (off:Int))]).run Tryz.prog W' = .ok (.int .i64 (dn:Int)) W':=by
        intro W'
        rw [min_run]
        congr 2
        split <;> omega
      have hSA:=HH.out.bl HBL.out
      obtain ⟨pm,sm,c,l,hSA⟩:=hSA
      obtain ⟨c0,c1,c2,c3⟩:=hSA.cell
      have hlook:=hSA.pages.look (show num < 2 ^ 64 by have:=HRI.out;omega)
      rw [← hx]
      have HX:=hid hx;clear hx
      have HNUM:=hid hnum;clear hnum
      have HOFF:=hid hoff;clear hoff
      have HDN:=hid hdn;clear hdn
      have HSA:=hid hSA;clear hSA
      rcases hb:f num with _ | b
      · rw [hb] at hlook
        simp only [ptrOf,Option.map_none] at hlook
        have HB:=hid hb;clear hb
        go_wp2_with fail
        have hd2:dn ≤ R - t:=by omega
        have hd3:0 < dn:=by have:=HDN.out;have:=HOFF.out;omega
        refine ⟨⟨t + dn,(if m - t = dn then some ⟨w.heap.size,t,none⟩ else some ⟨w.heap.size,t + dn,none⟩),?_,?_,fun hlt2=>?_,by omega,?_,HBL.out⟩,?_⟩
        · rw [HX.out];congr 1;omega
        · congr 1 <;> omega
        · rw [if_neg (by omega)]
        · rw [part_zero M addr m t dn (by omega) (fun i hi=>?_)]
          · exact HG.out
          · have h1:=HSA.out.zero num (off + i) HB.out (by have:=HDN.out;omega)
            have h2:num * 4096 + (off + i) = addr + t + i:=by have:=HNUM.out;have:=HOFF.out;omega
            rwa [h2] at h1
        · simp only [lenV];omega
      · rw [hb] at hlook
        simp only [ptrOf,Option.map_some] at hlook
        have HB:=hid hb;clear hb
        have hoffN:off < 4096:=by omega
        have hsl:=slice53 b off hoffN
        have hs2:=slice29to (some ⟨w.heap.size,t,none⟩) (R - t) (m - t) dn (by omega)
        go_wp2_with fail
        have hxt:x.tmod 4096 = (off:Int):=by rw [Int.tmod_eq_emod_of_nonneg hx0];exact hxo
        go_still_tail 8,(by kernel_rfl)
        change wpList _ _ _ _ _ wr.drew
        have hd2:dn ≤ R - t:=by omega
        have hd3:0 < dn:=by have:=HDN.out;have:=HOFF.out;omega
        obtain ⟨w2,hcp,hg2,hbl2⟩:=(HSA.out.bl (Bl.refl wr).drew).readRun (off:=off) HB.out w.heap.size t dn (m - t) m addr HG.out (by omega) (by have:=HDN.out;omega) (by have:=HNUM.out;have:=HOFF.out;omega) HBL.out.drew (Nat.le_refl _) 3
        have HG2:=hid hg2;clear hg2
        have HBL2:=hid hbl2;clear hbl2
        refine wpl_copy_run _ rfl (.tmp 49) (.tmp 54) 22 22 rfl _ _ _ rfl rfl hcp ?_
        clear hcp hxt hs2 hsl hlook c0 c1 c2 c3 hmn
        go_wp2_with fail
        refine ⟨⟨t + dn,(if m - t = dn then some ⟨w.heap.size,t,none⟩ else some ⟨w.heap.size,t + dn,none⟩),?_,?_,fun hlt2=>?_,by omega,HG2.out,HBL2.out⟩,?_⟩
        · rw [HX.out];congr 1;omega
        · congr 1 <;> omega
        · rw [if_neg (by omega)]
        · simp only [lenV];omega
    · have ht:t = R:=by omega
      have HT:=hid ht
      have h0:R - t = 0:=by omega
      rw [h0]
      clear ht hlt h0 hB
      go_wp2_with fail
      go_ret
      refine ⟨rfl,?_,HBL.out⟩
      have e:part M addr m t = bytesAt M addr m:=by
        have e1:=HRZ.out
        rw [HT.out]
        obtain ⟨d,hd⟩:∃ d,m = R + d:=⟨m - R,by omega⟩
        have e2:part M addr m (R + d) = part M addr m R:=part_zero M addr m R d (by omega) (fun i hi=>HH.out.beyond _ (by omega))
        rw [← e2,← hd]
        simp [part]
      rw [← e]
      exact HG.out
end Go.Proofs.YtbngjbmfkekdnaaGreatDoor

namespace Go.Proofs.YtbngjbmfkekdnaaGreatDoor
open Go.RowKit
set_option maxRecDepth 100000
theorem sliceFromP (A:Option Addr) (n cap k:Nat) (hk:k ≤ n) (hn:n ≤ cap) (w:World):(Instr.sliceAt 66 (.slice A n cap) (some (.int .i64 (k:Int))) none none).run Tryz.prog w = .ok (.slice (if cap = k then A else A.map (·.add (k * 3))) (n - k) (cap - k)) w:=by
  obtain ⟨i0,hi0,hz0,hz1,hz2⟩:=info_parts infoPg
  simp [Instr.sliceAt,Instr.slice,run_underlying Tryz.underlying66,Instr.sliceBounds,Instr.sliceBound,asIntOf,sizeOf,typeInfo,hi0,hz1,Result.andThen]
  rw [if_pos hk]
theorem flat_drop (R:List Pg) (k:Nat):flat pgC (R.drop k) = (flat pgC R).drop (k * 3):=by
  by_cases hk:k ≤ R.length
  · have h1:flat pgC R = flat pgC (R.take k) ++ flat pgC (R.drop k):=by rw [← flat_append,List.take_append_drop]
    have h2:(flat pgC (R.take k)).length = k * 3:=by rw [flat_length pgC_len,List.length_take];omega
    have h3:(flat pgC (R.take k)).drop (k * 3) = []:=List.drop_of_length_le (by omega)
    rw [h1,List.drop_append,h2,h3]
    simp
  · have h1:=flat_length pgC_len R
    rw [List.drop_of_length_le (by omega),List.drop_of_length_le (by omega)];rfl
theorem part_cells {w:World} {base n cap k:Nat} {A:Option Addr} {R:List Pg} (h:PRow w base (.slice A n cap) R) (hk:k ≤ n) :
    n = R.length∧n ≤ cap∧((if cap = k then A else A.map (·.add (k * 3))) = none → R.drop k = []∧cap - k = 0)∧∀ ad,(if cap = k then A else A.map (·.add (k * 3))) = some ad → ∀ j u,(flat pgC (R.drop k))[j]? = some u → w.cell? (ad.add j) = some u:=by
  rcases h.1.2 with ⟨h1,h0⟩ | ⟨g,cap',cur,h1,h2,h3,h4,h5,h6,h7⟩
  · injection h1 with e1 e2 e3
    subst e1 e2 e3
    have hR:R = []:=List.eq_nil_of_length_eq_zero h0
    subst hR
    obtain rfl:k = 0:=by omega
    exact ⟨rfl,Nat.le_refl _,fun _=>⟨rfl,rfl⟩,fun ad had=>by simp at had⟩
  · injection h1 with e1 e2 e3
    subst e1 e2 e3
    refine ⟨rfl,h4,fun e=>?_,fun ad had j u hu=>?_⟩
    · split at e <;> simp at e
    · by_cases hc:cap = k
      · have hd:R.drop k = []:=List.drop_of_length_le (by omega)
        rw [hd] at hu
        simp [flat] at hu
      · rw [if_neg hc] at had
        simp only [Option.map_some,Option.some.injEq] at had
        subst had
        rw [flat_drop,List.getElem?_drop] at hu
        have hlt:=(List.getElem?_eq_some_iff.1 hu).1
        rw [flat_length pgC_len] at hlt
        have e1:((⟨g,0,none⟩:Addr).add (k * 3)).add j = ⟨g,k * 3 + j,none⟩:=by
          unfold Addr.add;by_cases a0:k * 3 = 0 <;> by_cases b0:j = 0 <;> simp [a0,b0]
        rw [e1,h.1.cellAt (k * 3 + j) hlt]
        exact hu
end Go.Proofs.YtbngjbmfkekdnaaGreatDoor
