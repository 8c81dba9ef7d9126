/-
  A space of the reference: New, Lay, as a whole.
  find, Map.
  Pages of a space; what a program that does nothing does not answer.
  Touch of a store.
  Put of a space: bytes are laid, whatever may be done there, but for what is not mapped.
  Peek, Protect, Unmap, Check, Out of a space.
  The heap of a space: SetBrk, resize, Brk.
  Slices of numbers that came in.
  The walk of MemRooms.
  A heap below a wall; one byte that is put.
  Pages with a prot each; which places may be used.
  A space and the reference's space, side by side.
  Atomic instructions: the spaces that the law makes.
  Atomic instructions: the spaces that the law makes, as a whole.
  Atomic instructions: what a step answers is one; the reference's step.
-/
import Derived.Test.YtlhpodholnfppaaGreatDoorT11
import Derived.Test.YtlhpodholnfppaaGreatDoorT7
import Derived.Test.YtlhpodholnfppaaGreatDoorT6
import Derived.Test.YtlhpodholnfppaaGreatDoorT9
import Derived.Test.YtlhpodholnfppaaGreatDoorT2
import Derived.Lib.Hide
set_option linter.unusedVariables false
set_option linter.unusedSimpArgs false
set_option maxHeartbeats 16000000
open Go.Lib (hid)
namespace Go.Proofs.YtlhpodholnfppaaGreatDoor
open Go.RowKit
set_option maxRecDepth 100000
theorem rnewm_any (m:Int) (h0:0 ≤ m) (h1:m ≤ 4096) (w:World):Calls Tryz.prog 23 #[.int .i64 m] w fun e w'=>e = .returned (addr0 w.heap.size)∧RP (only w.heap.size) w' w.heap.size [] (fun _=>0) m 0 0∧Bl w w'∧w.heap.size < w'.heap.size:=by
  go_enter Tryz.func23,Tryz.ntmps23
  go_wp2
  go_ret
  exact ⟨rfl,⟨⟨_,heap_alloc_new w _,RowG.nil,fun g hg=>(by cases hg)⟩,rfl,Pgs.nil _,fun x hx=>(by cases hx),by simpa using h0,⟨h0,h1⟩,fun _=>(by omega),fun x hx=>(by cases hx),List.Pairwise.nil,fun _ _=>rfl⟩,Bl.new _ _,by simp⟩
section
variable {S:Nat → Prop} {mo b0 b1:Int} {w w':World} {rb:Nat} {P P':List Pg} {M:Nat → Int}
theorem pageOf_wiped_out {M:Nat → Int} {s t p:Nat} (h:p * 4096 + 4096 ≤ s ∨ t ≤ p * 4096):pageOf (wiped M s t) p = pageOf M p:=pageOf_other _ _ _ fun o ho=>by
  simp only [wiped];rw [if_neg (by omega)]
theorem pageOf_wiped_in {M:Nat → Int} {s t p:Nat} (h:s ≤ p * 4096) (h2:p * 4096 + 4096 ≤ t):pageOf (wiped M s t) p = List.replicate 4096 0:=pageOf_zero _ _ fun o ho=>by
  simp only [wiped];rw [if_pos (by omega)]
theorem RP.laid (h:RP S w rb P M mo b0 b1) (hS:∀ b,w.heap.size ≤ b → S b) {s t:Nat} {p:Int} (hp:0 ≤ p∧p ≤ 7) (hs:s % 4096 = 0) (ht:t % 4096 = 0) (hst:s < t)
    (hsp:SpaceFrom w.heap.size mo b0 b1 w' rb P') (hpg:Pgs 67108864 P') (hset:SetAs P P' s t p) (hl:LaidP w w' P P' s t p) (hf:Fr (only rb) w w') (hlen:(P'.length:Int) ≤ mo):RP S w' rb P' (wiped M s t) mo b0 b1:=by
  obtain ⟨v,h1,h2⟩:=hsp
  obtain ⟨k,N,hP',hN,hZ⟩:=hl
  have hold:∀ x,x ∈ outP P s t → S x.b∧x.b < w.heap.size∧w'.heap[x.b]? = some (byteRow (wiped M s t) x.no):=fun x hx=>by
    obtain ⟨hx1,hx2⟩:=outP_mem.1 hx
    obtain ⟨h4,h5⟩:=h.pages x hx1
    have h6:=h.pgs.2 x hx1
    refine ⟨h4,lt_at h5,?_⟩
    rw [hf.at_ h5 (fun e=>by
      obtain ⟨v0,h7,_⟩:=h.sp
      rw [show x.b = rb from e,h7] at h5
      exact absurd (cells_ty h5) (by decide))]
    unfold byteRow
    rw [pageOf_wiped_out (by omega)]
  have hnew:∀ x,x ∈ N → w.heap.size ≤ x.b∧w'.heap[x.b]? = some (byteRow (wiped M s t) x.no):=fun x hx=>by
    obtain ⟨h4,h5⟩:=hZ.z x hx
    obtain ⟨h6,h7,h8⟩:=hN.mem hx
    refine ⟨h4,?_⟩
    rw [h5]
    unfold byteRow zero4
    rw [pageOf_wiped_in (by omega) (by omega)]
  have hmem:∀ x,x ∈ P' → x ∈ outP P s t ∨ x ∈ N:=fun x hx=>by
    rw [hP'] at hx
    rcases List.mem_append.1 hx with hx | hx
    · rcases List.mem_append.1 hx with hx | hx
      · exact .inl (List.mem_of_mem_take hx)
      · exact .inr hx
    · exact .inl (List.mem_of_mem_drop hx)
  refine ⟨⟨v,h1,h2.base_ (fun g hg=>Nat.zero_le _),fun g hg=>hS g (h2.lt g hg).1⟩,h.own,hpg,fun x hx=>?_,hlen,h.mo_,fun x=>?_,fun x hx=>?_,?_,fun a ha=>?_⟩
  · rcases hmem x hx with hx | hx
    · exact h.pr x (outP_mem.1 hx).1
    · rw [(hN.mem hx).2.2];exact hp
  · simp only [wiped];split
    · omega
    · exact h.by_ x
  · rcases hmem x hx with hx | hx
    · exact ⟨(hold x hx).1,(hold x hx).2.2⟩
    · exact ⟨hS _ (hnew x hx).1,(hnew x hx).2⟩
  · rw [hP']
    have ho:(outP P s t).Pairwise fun x y=>x.b ≠ y.b:=h.apart.sublist List.filter_sublist
    refine List.pairwise_append.2 ⟨List.pairwise_append.2 ⟨ho.sublist (List.take_sublist _ _),hZ.d,fun x hx y hy=>?_⟩,ho.sublist (List.drop_sublist _ _),fun x hx y hy=>?_⟩
    · have g1:=(hold x (List.mem_of_mem_take hx)).2.1
      have g2:=(hnew y hy).1
      omega
    · rcases List.mem_append.1 hx with hx | hx
      · rw [← List.take_append_drop k (outP P s t)] at ho
        exact (List.pairwise_append.1 ho).2.2 x hx y hy
      · have g1:=(hold y (List.mem_of_mem_drop hy)).2.1
        have g2:=(hnew x hx).1
        omega
  · simp only [wiped]
    split
    · rfl
    · exact h.out a fun q hq=>ha q ((hset a q).2 (.inr ⟨by omega,hq⟩))
def RLayIs (S:Nat → Prop) (w:World) (rb:Nat) (P:List Pg) (M:Nat → Int) (mo b0 b1:Int) (s t:Nat) (p:Int) (e:Ending) (w':World):Prop:=∃ r,e = .returned (.int .i64 r) ∧
  ((r = 0∧∃ P',RP S w' rb P' (wiped M s t) mo b0 b1∧SetAs P P' s t p∧Fr S w w'∧(regs P').length ≤ 256) ∨ (r = 12∧LayNo mo w P s t p w'))
theorem rp_lay (h:RP S w rb P M mo b0 b1) (hS:∀ b,w.heap.size ≤ b → S b) (s t:Nat) (p:Int) (hp:0 ≤ p∧p ≤ 7) (hs:Span (s:Int) (t:Int)) :
    Calls Tryz.prog 25 #[addr0 rb,.int .u64 (s:Int),.int .u64 (t:Int),.int .i64 p] w (RLayIs S w rb P M mo b0 b1 s t p):=by
  have hs2:=hs
  obtain ⟨s1,s2,s3,s4⟩:=hs2
  refine (rlay_any h.space h.pgs (by have:=h.few;omega) s t p (by omega) hs h.mo_.1 h.mo_.2).mono ?_
  rintro e w' ⟨r,rfl,hr⟩
  refine ⟨r,rfl,?_⟩
  rcases hr with ⟨h1,P',g1,g2,g3,g4,g5,g6,g7,g8⟩ | hr
  · refine .inl ⟨h1,P',h.laid hS hp (by omega) (by omega) (by omega) g1 g2 g3 g4 g5 g6,g3,g5.mono fun b _ e=>by rw [show b = rb from e];exact h.own,g7⟩
  · exact .inr hr
end
end Go.Proofs.YtlhpodholnfppaaGreatDoor

namespace Go.Proofs.YtlhpodholnfppaaGreatDoor
open Go.RowKit
set_option maxRecDepth 100000
def LayAny (T:Nat → Prop) (w:World) (sb n:Nat) (L:List Rg) (M st:Nat → Int) (mo ba en:Int) (a b:Nat) (p:Int) (r:Int) (w':World):Prop:=
  (r = 0∧Span (a:Int) (b:Int)∧0 ≤ p∧p ≤ 7∧(layL L a b [⟨a,b,p⟩]).length ≤ 256∧tot (layL L a b [⟨a,b,p⟩]) ≤ mo * 4096∧ClearPost T w sb n (layL L a b [⟨a,b,p⟩]) M st mo ba en a b w') ∨
  (r = 22∧¬ (Span (a:Int) (b:Int)∧0 ≤ p∧p ≤ 7)∧Bl w w') ∨
  (r = 12∧Span (a:Int) (b:Int)∧(256 < (layL L a b [⟨a,b,p⟩]).length ∨ mo * 4096 < tot (layL L a b [⟨a,b,p⟩]))∧Bl w w')
theorem mlay_any {T:Nat → Prop} {w:World} {sb n:Nat} {L:List Rg} {M st:Nat → Int} {mo ba en:Int} (h:MS T w sb n L M st mo ba en) (a b:Nat) (p:Int) (ha:a < 2 ^ 64) (hb:b < 2 ^ 64) (hn:n < 80000000) (hT:∀ b,w.heap.size ≤ b → T b) :
    Calls Tryz.prog 43 #[addr0 sb,.int .u64 (a:Int),.int .u64 (b:Int),.int .i64 p] w fun e w'=>∃ r,e = .returned (.int .i64 r)∧LayAny T w sb n L M st mo ba en a b p r w':=by
  by_cases hs:Span (a:Int) (b:Int)∧0 ≤ p∧p ≤ 7
  · obtain ⟨hs,hp0,hp1⟩:=hs
    rcases Nat.lt_or_ge 256 (layL L a b [⟨a,b,p⟩]).length with hc | hc
    · refine (mlay_many h a b p hs hp0 hp1 hc).mono ?_
      rintro e w' ⟨rfl,k⟩
      exact ⟨12,rfl,.inr (.inr ⟨rfl,hs,.inl hc,k⟩)⟩
    · rcases Int.lt_or_le (mo * 4096) (tot (layL L a b [⟨a,b,p⟩])) with ht | ht
      · refine (mlay_full h a b p hs hp0 hp1 hc ht).mono ?_
        rintro e w' ⟨rfl,k⟩
        exact ⟨12,rfl,.inr (.inr ⟨rfl,hs,.inr ht,k⟩)⟩
      · refine (mlay_ok h a b p hs hp0 hp1 hc ht hn hT).mono ?_
        rintro e w' ⟨rfl,k⟩
        exact ⟨0,rfl,.inl ⟨rfl,hs,hp0,hp1,hc,ht,k⟩⟩
  · refine (mlay_no h a b p (by omega) (by omega) (by omega) (by omega) hs).mono ?_
    rintro e w' ⟨rfl,k⟩
    exact ⟨22,rfl,.inr (.inl ⟨rfl,hs,k⟩)⟩
def MapPost (T:Nat → Prop) (w:World) (sb n:Nat) (L:List Rg) (M st:Nat → Int) (mo ba en:Int) (a b:Nat) (p:Int) (e:Ending) (w':World):Prop:=
  ∃ r,e = .returned (.tuple #[.int .u64 (if r = 0 then (a:Int) else 0),.int .i64 r])∧LayAny T w sb n L M st mo ba en a b p r w'
theorem mmap_fixed {T:Nat → Prop} {w:World} {sb n:Nat} {L:List Rg} {M st:Nat → Int} {mo ba en:Int} (h:MS T w sb n L M st mo ba en) (a:Nat) (size p:Int) (ha:a < 2 ^ 64) (h1:0 ≤ size) (hv:(a:Int) % 4096 = 0∧size ≠ 0∧size ≤ 274877906944∧0 ≤ p∧p ≤ 7) (hn:n < 80000000) (hT:∀ b,w.heap.size ≤ b → T b) (b:Nat) (hb:(b:Int) = IntKind.u64.wrap (a + (size + 4095) / 4096 * 4096)) :
    Calls Tryz.prog 24 #[addr0 sb,.int .u64 (a:Int),.int .u64 size,.int .i64 p,.bool true] w (MapPost T w sb n L M st mo ba en a b p):=by
  obtain ⟨a1,a2,a3,a4,a5⟩:=hv
  have t1:((a:Int) % 4096 != 0) = false:=by simp [a1]
  have t2:(size == 0) = false:=by simp [a2]
  have t3:decide (274877906944 < size) = false:=by simp;omega
  have cp:=fun W=>misProt_yes p W a4 a5
  have cu:=fun W=>mup_any size W
  rw [upW_in h1 a3] at cu
  have cl:=mlay_any h a b p ha (by have:=wrap_in (a + (size + 4095) / 4096 * 4096);omega) hn hT
  generalize (size + 4095) / 4096 * 4096 = sz at *
  rw [hb] at cl
  have CP:=hid cp;clear cp
  have CU:=hid cu;clear cu
  have CL:=hid cl;clear cl a1 a2 h hb
  unfold addr0 at *
  have hx0:(0:Int) ≤ (a:Int):=by omega
  have hx1:(a:Int) ≤ 18446744073709551615:=by omega
  go_enter Tryz.func24,Tryz.ntmps24
  go_wp2_with fail
  refine (CP.out _).mono ?_
  rintro e w' ⟨rfl,rfl⟩
  go_wp2_with fail
  refine (CU.out _).mono ?_
  rintro e w' ⟨rfl,rfl⟩
  go_wp2_with fail
  refine CL.out.mono ?_
  rintro e w' ⟨r,rfl,hl⟩
  have HL:=hid hl;clear hl
  by_cases hr:r = 0
  · subst hr
    go_wp2_with fail
    go_ret2
    exact ⟨0,by rw [if_pos rfl];rfl,HL.out⟩
  · have t5:(r != 0) = true:=by simp [hr]
    have HR:=hid hr;clear hr
    go_wp2_with fail
    go_ret2
    exact ⟨r,by rw [if_neg HR.out];rfl,HL.out⟩
end Go.Proofs.YtlhpodholnfppaaGreatDoor

namespace Go.Proofs.YtlhpodholnfppaaGreatDoor
open Go.RowKit
set_option maxRecDepth 100000
end Go.Proofs.YtlhpodholnfppaaGreatDoor

namespace Go.Proofs.YtlhpodholnfppaaGreatDoor
open Go.RowKit
set_option maxRecDepth 100000
end Go.Proofs.YtlhpodholnfppaaGreatDoor

namespace Go.Proofs.YtlhpodholnfppaaGreatDoor
open Go.RowKit
set_option maxRecDepth 100000
theorem rest_any (a:Int) (w:World) (h0:0 ≤ a):Calls Tryz.prog 46 #[.int .u64 a] w fun e w'=>e = .returned (.int .i64 (4096 - a % 4096))∧w = w':=by
  go_enter Tryz.func46,Tryz.ntmps46
  go_wp2
  go_ret
  exact ⟨rfl,rfl⟩
theorem page_in {L:List Rg} (h:Rs L) {r:Rg} (hr:r ∈ L) {a d:Nat} (h1:r.s ≤ a) (h2:(a:Int) < r.e) (hd:d ≤ 4096 - a % 4096):(a:Int) + d ≤ r.e:=by
  have:=h.al r hr
  have:=h.nm.so.2 r hr
  omega
structure PR (T:Nat → Prop) (w:World) (sb n0:Nat) (L:List Rg) (P:Nat → (Nat → Int) → (Nat → Int) → Prop) (mo ba en:Int) (xs:List Int) (t:Nat) (wr:World) (A:Option Addr) (cap:Nat):Prop where
  le:t ≤ xs.length
  cap_:xs.length - t ≤ cap
  rd:Rd wr A (xs.drop t)
  out:t < xs.length → ∀ ad,A = some ad → ¬ T ad.block
  ms:∃ M st,MS T wr sb (n0 + 6 * t) L M st mo ba en∧P t M st
  fr:Fr T w wr
def PutStep (L:List Rg) (a:Nat) (xs:List Int) (P:Nat → (Nat → Int) → (Nat → Int) → Prop):Prop:=∀ t M st (c d:Nat),P t M st → t < xs.length → c = (a + t) % 18446744073709551616 → d = min (xs.length - t) (4096 - c % 4096) →
  ((∃ q,In L c q) → ∀ st',Rise st st' (fun p=>∃ x,c ≤ x∧x < c + d∧p = x / 4096) → P (t + d) (lay M c ((xs.drop t).take d)) st')∧((∀ q,¬ In L c q) → P (t + d) M st)
theorem getD_drop_take {xs:List Int} (h:∀ k,0 ≤ xs.getD k 0∧xs.getD k 0 ≤ 255) (t d:Nat):∀ k,0 ≤ ((xs.drop t).take d).getD k 0∧((xs.drop t).take d).getD k 0 ≤ 255:=fun k=>by
  rw [List.getD_eq_getElem?_getD,List.getElem?_take]
  split
  · rw [List.getElem?_drop]
    have:=h (t + k)
    rwa [List.getD_eq_getElem?_getD] at this
  · simp
theorem PR.step {T:Nat → Prop} {w:World} {sb n0:Nat} {L:List Rg} {P:Nat → (Nat → Int) → (Nat → Int) → Prop} {mo ba en:Int} {xs:List Int} {t d:Nat} {wr w3:World} {B:Option Addr} {cp:Nat} (h:PR T w sb n0 L P mo ba en xs t wr B cp) (hd:d ≤ xs.length - t) (hd0:0 < d) {M st:Nat → Int} (hm:MS T w3 sb (n0 + 6 * (t + d)) L M st mo ba en) (hp:P (t + d) M st) (fr:Fr T wr w3) :
    PR T w sb n0 L P mo ba en xs (t + d) w3 (if cp = d then B else B.map (·.add d)) (cp - d):=by
  have hcap:=h.cap_
  have hle:=h.le
  refine ⟨by omega,by omega,?_,?_,⟨M,st,hm,hp⟩,h.fr.trans fr⟩
  · have h1:=(h.rd.fr fr (fun h0=>h.out (by omega))).drop d cp (by rw [List.length_drop];omega) (by rw [List.length_drop];omega)
    rw [List.drop_drop] at h1
    exact h1
  · intro _ ad had
    split at had
    · exact h.out (by omega) ad had
    · rcases B with _ | a0
      · cases had
      · simp only [Option.map_some,Option.some.injEq] at had
        subst had
        rw [add_block]
        exact h.out (by omega) a0 rfl
theorem mod_step (a t c d:Nat) (h:c = (a + t) % 18446744073709551616):IntKind.u64.wrap ((c:Int) + (d:Int)) = (((a + (t + d)) % 18446744073709551616:Nat):Int):=by
  rw [IntKind.wrap_u64];omega
theorem mput_any {T:Nat → Prop} {w:World} {sb n0:Nat} {L:List Rg} {M st:Nat → Int} {mo ba en:Int} (h:MS T w sb n0 L M st mo ba en) (a:Nat) (A:Option Addr) (len cap:Nat) (xs:List Int) (hr:Rd w A xs) (hl:xs.length = len) (hlc:len ≤ cap) (hb:∀ k,0 ≤ xs.getD k 0∧xs.getD k 0 ≤ 255)
    (hA:0 < len → ∀ ad,A = some ad → ¬ T ad.block) (ha:a < 2 ^ 64) (hlen:len ≤ 100000) (hn:n0 < 10000000) (hT:∀ b,w.heap.size ≤ b → T b) (P:Nat → (Nat → Int) → (Nat → Int) → Prop) (hP0:P 0 M st) (hP:PutStep L a xs P) :
    Calls Tryz.prog 26 #[addr0 sb,.int .u64 (a:Int),.slice A len cap] w fun e w'=>e = .returned (.tuple #[])∧∃ M' st',MS T w' sb (n0 + 6 * len) L M' st' mo ba en∧P len M' st'∧Fr T w w':=by
  have hpr:PR T w sb n0 L P mo ba en xs 0 w A cap:=⟨Nat.zero_le _,by omega,hr,fun h0=>hA (by omega),⟨M,st,h,hP0⟩,Fr.refl _ _⟩
  have HPR:=hid hpr;clear hpr h hr hA hP0
  have HL:=hid hl;clear hl
  have HB:=hid hb;clear hb
  have HT:=hid hT;clear hT
  have HP:=hid hP;clear hP
  have hlI:(len:Int) ≤ 100000:=by omega
  unfold addr0
  go_enter Tryz.func26,Tryz.ntmps26
  go_wp2_with fail
  go_loopw [1,2,6,7,8] (fun v1 v2 _ _ _ wr=>∃ (t cp:Nat) (B:Option Addr),v1 = .int .u64 (((a + t) % 18446744073709551616:Nat):Int)∧v2 = .slice B (len - t) cp∧PR T w sb n0 L P mo ba en xs t wr B cp) (fun _ v2 _ _ _ _=>lenV v2)
  case atStart=>exact ⟨0,cap,A,by congr 2;omega,rfl,HPR.out⟩
  case round =>
    obtain ⟨t,cp,B,rfl,rfl,hpr⟩:=hrel
    clear HPR
    have htl:=hpr.le
    rw [HL.out] at htl
    by_cases hlt:t < len
    · obtain ⟨c,hc⟩:∃ c,c = (a + t) % 18446744073709551616:=⟨_,rfl⟩
      rw [← hc]
      obtain ⟨d,hd⟩:∃ d,d = min (len - t) (4096 - c % 4096):=⟨_,rfl⟩
      have hd0:0 < d:=by omega
      have hd1:d ≤ len - t:=by omega
      have hd2:d ≤ 4096 - c % 4096:=by omega
      have hc0:(c:Int) ≤ 18446744073709551615:=by omega
      have hcp:=hpr.cap_
      rw [HL.out] at hcp
      have hmn:∀ W',(Builtin.min_ #[3,3] 3 #[.int .i64 ((len - t:Nat):Int),.int .i64 (4096 - (c:Int) % 4096)]).run Tryz.prog W' = .ok (.int .i64 (d:Int)) W':=by
        intro W'
        rw [min_run]
        congr 2
        split <;> omega
      obtain ⟨M1,st1,hms,hp1⟩:=hpr.ms
      have hstep:=HP.out t M1 st1 c d hp1 (by rw [HL.out];exact hlt) hc (by rw [HL.out];exact hd)
      obtain ⟨X,hX⟩:=hms.list
      have cat:=at_any hX hms.so (c:Int) (by have:=hms.few;omega)
      have CAT:=hid cat;clear cat hX
      have CR:=hid (fun W=>rest_any (c:Int) W (by omega))
      have HPRR:=hid hpr;clear hpr
      have HMS:=hid hms;clear hms
      have HST:=hid hstep;clear hstep hp1
      have HC:=hid hc;clear hc
      have HD:=hid hd;clear hd
      have hrlI:(0:Int) < ((len - t:Nat):Int):=by omega
      have hd0I:(0:Int) < (d:Int):=by omega
      have hdI:(d:Int) ≤ ((len - t:Nat):Int):=by omega
      have hdcI:(d:Int) ≤ (cp:Int):=by omega
      unfold addr0 at *
      go_wp2_with fail
      refine (CR.out _).mono ?_
      rintro e w' ⟨rfl,rfl⟩
      go_wp2_with fail
      refine CAT.out.mono ?_
      rintro e w1 ⟨r,ok,rfl,hok,k1⟩
      clear CAT CR hmn
      have K1:=hid (k1.alloc (.cells #[.int .u64 r.s,.int .u64 r.e,.int .i64 r.p] 112))
      unfold rgV
      rcases hok with ⟨rfl,m1,m2,m3⟩ | ⟨rfl,rfl,m1⟩
      · have hin:∃ q,In L c q:=⟨r.p,r,m1,m2,m3,rfl⟩
        have htop:=page_in HMS.out.rs m1 m2 m3 hd2
        have hto2:=HMS.out.so.2 r m1
        have HIN:=hid hin
        have HTOP:Hid (c + d ≤ 274877906944):=hid (by omega)
        clear m1 m2 m3 hin htop hto2 k1
        obtain ⟨rs_,re_,rp_⟩:=r
        simp only at K1 ⊢
        have hs2:=slice29to B (len - t) cp d (by omega)
        go_wp2_with fail
        generalize w1.alloc (.cells #[.int .u64 rs_,.int .u64 re_,.int .i64 rp_] 112) = W at *
        go_region_with (go_at_call 48;have hmW:=HMS.out.bl K1.out;refine (mwrite_any (hmW.bl (Bl.refl W).drew) c B d cp ((xs.drop t).take d) ((HPRR.out.rd.fr (Fr.of_bl (S:=T) K1.out.drew) (fun _=>HPRR.out.out (by rw [HL.out];exact hlt))).take d) (by rw [List.length_take,List.length_drop,HL.out];omega) (by omega) (getD_drop_take HB.out t d) (fun _=>HPRR.out.out (by rw [HL.out];exact hlt)) HTOP.out (by omega) (by omega) (fun b hb=>HT.out b (Nat.le_trans HPRR.out.fr.size (Nat.le_trans K1.out.size hb)))).mono ?_;rintro e w3 ⟨rfl,st3,m3,r3,f3⟩)
        all_goals (
          have hpg:pagesOf c d ≤ 2 * d:=by unfold pagesOf;split <;> omega
          have hpr2:=HPRR.out.step (by rw [HL.out];exact hd1) hd0 (m3.mono (by omega)) (HST.out.1 HIN.out st3 r3) ((Fr.of_bl (K1.out.drew)).trans f3)
          have HPR2:=hid hpr2
          clear hpr2 m3 r3 f3 hs2 hpg HMS HST K1 HPRR
          go_wp2_with fail
          refine ⟨⟨t + d,cp - d,_,by rw [mod_step a t c d HC.out],by congr 1;omega,HPR2.out⟩,by simp only [lenV];omega⟩)
      · have HNO:=hid m1;clear m1 k1
        simp only at K1 ⊢
        have hpr2:=HPRR.out.step (by rw [HL.out];exact hd1) hd0 ((HMS.out.bl K1.out).mono (by omega)) (HST.out.2 HNO.out) (Fr.of_bl K1.out)
        have HPR2:=hid hpr2
        clear hpr2 HMS HST HPRR
        go_wp2_with fail
        refine ⟨⟨t + d,cp - d,_,by rw [mod_step a t c d HC.out],by congr 1;omega,HPR2.out⟩,by simp only [lenV];omega⟩
    · obtain rfl:t = len:=by omega
      rw [show t - t = 0 by omega]
      have HPRR:=hid hpr;clear hpr hlt
      go_wp2_with fail
      go_end0
      obtain ⟨M1,st1,m1,p1⟩:=HPRR.out.ms
      exact ⟨rfl,M1,st1,m1,p1,HPRR.out.fr⟩
end Go.Proofs.YtlhpodholnfppaaGreatDoor

namespace Go.Proofs.YtlhpodholnfppaaGreatDoor
open Go.RowKit
set_option maxRecDepth 100000
end Go.Proofs.YtlhpodholnfppaaGreatDoor

namespace Go.Proofs.YtlhpodholnfppaaGreatDoor
open Go.RowKit
set_option maxRecDepth 100000
end Go.Proofs.YtlhpodholnfppaaGreatDoor

namespace Go.Proofs.YtlhpodholnfppaaGreatDoor
open Go.RowKit
theorem u8_in {a:Int} (h:(Lit.int .u8 a).wf = true):0 ≤ a∧a ≤ 255:=by
  have h4:(decide ((0:Int) ≤ a) && decide (a ≤ 255)) = true:=h
  simpa only [Bool.and_eq_true,decide_eq_true_eq] using h4
theorem u64_wf {a:Int} (h:(Lit.int .u64 a).wf = true):0 ≤ a∧a ≤ 18446744073709551615:=by
  have h4:(decide ((0:Int) ≤ a) && decide (a ≤ 18446744073709551615)) = true:=h
  simpa only [Bool.and_eq_true,decide_eq_true_eq] using h4
end Go.Proofs.YtlhpodholnfppaaGreatDoor

namespace Go.Proofs.YtlhpodholnfppaaGreatDoor
open Go.RowKit
set_option maxRecDepth 100000
end Go.Proofs.YtlhpodholnfppaaGreatDoor

namespace Go.Proofs.YtlhpodholnfppaaGreatDoor
open Go.RowKit
set_option maxRecDepth 100000
structure HI (L:List Rg) (M:Nat → Int) (en at_:Int):Prop where
  rs:Rs L
  pl:∀ x q,In L x q ↔ q = 3∧((8192 ≤ x∧x < (en + 4095) / 4096 * 4096) ∨ (at_ ≤ x∧x < at_ + 4096))
  zero:∀ x:Nat,(x:Int) < at_ → M x = 0
  e0:8192 ≤ en
  e1:(en + 4095) / 4096 * 4096 ≤ at_
  a0:at_ % 4096 = 0
  a1:at_ ≤ 126976
end Go.Proofs.YtlhpodholnfppaaGreatDoor

namespace Go.Proofs.YtlhpodholnfppaaGreatDoor
open Go.RowKit
set_option maxRecDepth 100000
structure KI (L:List Rg) (pr:Nat → Int) (i:Nat):Prop where
  rs:Rs L
  le:i ≤ 6
  pl:∀ x q,In L x q ↔ ∃ j:Nat,j < i∧((j:Int) + 1) * 4096 ≤ x∧x < ((j:Int) + 2) * 4096∧q = pr j
theorem bit_all:∀ n:Fin 256,((bits .and .i64 ((n.val:Int) % 8) 2 = 2) ↔ (bits .and .u8 (n.val:Int) 2 != 0) = true)∧((bits .and .i64 ((n.val:Int) % 8) 1 = 1) ↔ (bits .and .u8 (n.val:Int) 1 != 0) = true):=by decide +kernel
theorem bit2 (c:Int) (h0:0 ≤ c) (h1:c ≤ 255):(bits .and .i64 (c % 8) 2 = 2) ↔ (bits .and .u8 c 2 != 0) = true:=by
  obtain ⟨n,rfl⟩:=Int.eq_ofNat_of_zero_le h0
  exact (bit_all ⟨n,by omega⟩).1
end Go.Proofs.YtlhpodholnfppaaGreatDoor

namespace Go.Proofs.YtlhpodholnfppaaGreatDoor
open Go.RowKit
set_option maxRecDepth 100000
structure Two (K:Nat → Prop) (w:World) (sb rb n:Nat) (L:List Rg) (M st:Nat → Int) (mo ba en:Int) (L2:List Rg) (M2:Nat → Int):Prop where
  ex:∃ T1 T2 P,MS T1 w sb n L M st mo ba en∧RP T2 w rb P M2 mo ba en∧regs P = L2∧(∀ b,b < w.heap.size → T1 b → ¬ T2 b)∧(∀ b,K b → ¬ T1 b∧¬ T2 b)∧∀ b,w.heap.size ≤ b → T1 b∧T2 b
section
variable {K:Nat → Prop} {w w':World} {sb rb n:Nat} {L L2:List Rg} {M st M2:Nat → Int} {mo ba en:Int}
theorem Two.less (h:Two K w sb rb n L M st mo ba en L2 M2) {J:Nat → Prop} (hJ:∀ b,J b → K b):Two J w sb rb n L M st mo ba en L2 M2:=by
  obtain ⟨T1,T2,P,h1,h2,h3,h4,h5,h6⟩:=h.ex
  exact ⟨T1,T2,P,h1,h2,h3,h4,fun b hb=>h5 b (hJ b hb),h6⟩
theorem Two.bl (h:Two K w sb rb n L M st mo ba en L2 M2) (k:Bl w w'):Two (fun b=>K b ∨ (w.heap.size ≤ b∧b < w'.heap.size)) w' sb rb n L M st mo ba en L2 M2:=by
  obtain ⟨T1,T2,P,h1,h2,h3,h4,h5,h6⟩:=h.ex
  have hs:=k.size
  refine ⟨fun b=>T1 b∧(b < w.heap.size ∨ w'.heap.size ≤ b),fun b=>T2 b∧(b < w.heap.size ∨ w'.heap.size ≤ b),P,(h1.among fun b hb hT=>⟨hT,.inl hb⟩).bl k,(h2.among fun b hb hT=>⟨hT,.inl hb⟩).bl k,h3,fun b hb e1 e2=>?_,fun b hb=>?_,fun b hb=>?_⟩
  · rcases e1.2 with h7 | h7
    · exact h4 b h7 e1.1 e2.1
    · omega
  · rcases hb with hb | hb
    · exact ⟨fun e=>(h5 b hb).1 e.1,fun e=>(h5 b hb).2 e.1⟩
    · exact ⟨fun e=>by rcases e.2 with h7 | h7 <;> omega,fun e=>by rcases e.2 with h7 | h7 <;> omega⟩
  · exact ⟨⟨(h6 b (by omega)).1,.inr hb⟩,⟨(h6 b (by omega)).2,.inr hb⟩⟩
theorem Two.call1 (h:Two K w sb rb n L M st mo ba en L2 M2):∃ T1,MS T1 w sb n L M st mo ba en∧(∀ b,w.heap.size ≤ b → T1 b)∧∀ w' n' L' M' st' mo' ba' en',mo' = mo → ba' = ba → en' = en → MS T1 w' sb n' L' M' st' mo' ba' en' → Fr T1 w w' → Two K w' sb rb n' L' M' st' mo ba en L2 M2∧Fr (fun b=>¬ K b) w w':=by
  obtain ⟨T1,T2,P,h1,h2,h3,h4,h5,h6⟩:=h.ex
  refine ⟨T1,h1,fun b hb=>(h6 b hb).1,fun w' n' L' M' st' mo' ba' en' e1 e2 e3 hm hf=>⟨?_,hf.mono fun b _ hT e=>(h5 b e).1 hT⟩⟩
  subst e1 e2 e3
  have hs:=hf.size
  refine ⟨T1,fun b=>T2 b∧(b < w.heap.size ∨ w'.heap.size ≤ b),P,hm,(h2.among fun b hb hT=>⟨hT,.inl hb⟩).kept hf (fun b hb e e2=>h4 b hb e2 e.1),h3,fun b hb e1 e2=>?_,fun b hb=>⟨(h5 b hb).1,fun e=>(h5 b hb).2 e.1⟩,fun b hb=>⟨(h6 b (by omega)).1,⟨(h6 b (by omega)).2,.inr hb⟩⟩⟩
  rcases e2.2 with h7 | h7
  · exact h4 b h7 e1 e2.1
  · omega
theorem Two.call2 (h:Two K w sb rb n L M st mo ba en L2 M2):∃ T2 P,RP T2 w rb P M2 mo ba en∧regs P = L2∧(∀ b,w.heap.size ≤ b → T2 b)∧∀ w' P' M2',RP T2 w' rb P' M2' mo ba en → Fr T2 w w' → Two K w' sb rb n L M st mo ba en (regs P') M2'∧Fr (fun b=>¬ K b) w w':=by
  obtain ⟨T1,T2,P,h1,h2,h3,h4,h5,h6⟩:=h.ex
  refine ⟨T2,P,h2,h3,fun b hb=>(h6 b hb).2,fun w' P' M2' hm hf=>⟨?_,hf.mono fun b _ hT e=>(h5 b e).2 hT⟩⟩
  have hs:=hf.size
  have g1:MS (fun b=>T1 b∧(b < w.heap.size ∨ w'.heap.size ≤ b)) w' sb n L M st mo ba en:=by
    have g:=h1.among (U:=fun b=>T1 b∧b < w.heap.size) fun b hb hT=>⟨hT,hb⟩
    have g2:=g.kept hf (fun b e e2=>h4 b e.2 e.1 e2)
    exact g2.among fun b hb e=>⟨e.1,.inl e.2⟩
  refine ⟨fun b=>T1 b∧(b < w.heap.size ∨ w'.heap.size ≤ b),T2,P',g1,hm,rfl,fun b hb e1 e2=>?_,fun b hb=>⟨fun e=>(h5 b hb).1 e.1,(h5 b hb).2⟩,fun b hb=>⟨⟨(h6 b (by omega)).1,.inr hb⟩,(h6 b (by omega)).2⟩⟩
  rcases e1.2 with h7 | h7
  · exact h4 b h7 e1.1 e2
  · omega
theorem Two.kept (h:Two K w sb rb n L M st mo ba en L2 M2) {U:Nat → Prop} (hf:Fr U w w') (hU:∀ b,b < w.heap.size → U b → K b) (hsz:w'.heap.size = w.heap.size):Two K w' sb rb n L M st mo ba en L2 M2:=by
  obtain ⟨T1,T2,P,h1,h2,h3,h4,h5,h6⟩:=h.ex
  have g1:MS T1 w' sb n L M st mo ba en:=by
    have g:=h1.among (U:=fun b=>T1 b∧b < w.heap.size) fun b hb hT=>⟨hT,hb⟩
    exact (g.kept hf (fun b e e2=>(h5 b (hU b e.2 e2)).1 e.1)).among fun b hb e=>e.1
  exact ⟨T1,T2,P,g1,h2.kept hf (fun b hb e e2=>(h5 b (hU b hb e2)).2 e),h3,by rw [hsz];exact h4,h5,by rw [hsz];exact h6⟩
end
end Go.Proofs.YtlhpodholnfppaaGreatDoor

namespace Go.Proofs.YtlhpodholnfppaaGreatDoor
open Go.RowKit
set_option maxRecDepth 100000
def zM:Nat → Int:=fun _=>0
theorem wiped_zM (a b:Nat):wiped zM a b = zM:=by funext x;simp only [wiped,zM];split <;> rfl
section
variable {K:Nat → Prop} {w:World} {sb rb n:Nat} {L:List Rg} {st:Nat → Int} {pr:Nat → Int} {i:Nat}
end
def hartV (pc:Int) (xs:List Int) (at_ held:Int) (rb:Nat):List Value:=(.int .u64 pc :: xs.map (Value.int .u64)) ++ [.int .u64 at_,.int .i64 held,addr0 rb]
structure HAt (w:World) (hb rb:Nat) (pc:Int) (xs:List Int) (at_ held:Int):Prop where
  blk:w.heap[hb]? = some (.cells (hartV pc xs at_ held rb).toArray 74 (0,0))
  len:xs.length = 32
section
variable {w w':World} {hb rb:Nat} {pc at_ held:Int} {xs:List Int}
end
end Go.Proofs.YtlhpodholnfppaaGreatDoor

namespace Go.Proofs.YtlhpodholnfppaaGreatDoor
open Go.RowKit
set_option maxRecDepth 100000
theorem first_two {w w1 w2:World} {m:Int} (h1:MS (fun b=>w.heap.size ≤ b) w1 w.heap.size 0 [] (fun _=>0) (fun _=>0) m 0 0) (k1:Bl w w1) (s1:w1.heap.size = w.heap.size + 1) (h2:RP (only w1.heap.size) w2 w1.heap.size [] (fun _=>0) m 0 0) (k2:Bl w1 w2) (s2:w1.heap.size < w2.heap.size) :
    Two (fun b=>b < w.heap.size) w2 w.heap.size (w.heap.size + 1) 0 [] zM zM m 0 0 [] zM:=by
  rw [s1] at h2 s2
  have hs:=k2.size
  refine ⟨fun b=>w.heap.size ≤ b∧(b = w.heap.size ∨ w2.heap.size ≤ b),fun b=>b = w.heap.size + 1 ∨ w2.heap.size ≤ b,[],?_,h2.among (fun b _ e=>.inl e),rfl,fun b hb e1 e2=>?_,fun b hb=>⟨fun e=>by omega,fun e=>by omega⟩,fun b hb=>⟨⟨by omega,.inr hb⟩,.inr hb⟩⟩
  · exact (h1.among (U:=fun b=>w.heap.size ≤ b∧(b = w.heap.size ∨ w2.heap.size ≤ b)) (fun b hb e=>⟨e,.inl (by omega)⟩)).bl k2
  · omega
theorem bl_fr {w a b:World} {J:Nat → Prop} (hJ:∀ q,q < w.heap.size → J q) (hb:Bl w a) (f:Fr (fun b=>¬ J b) a b):Bl w b:=
  ⟨f.os.trans hb.os,f.tape.trans hb.tape,f.output.trans hb.output,Nat.le_trans hb.size f.size,fun q hq=>(f.block q (Nat.lt_of_lt_of_le hq hb.size) (fun e=>e (hJ q hq))).trans (hb.block q hq)⟩
end Go.Proofs.YtlhpodholnfppaaGreatDoor

namespace Go.Proofs.YtlhpodholnfppaaGreatDoor
open Go.RowKit
set_option maxRecDepth 100000
theorem awid_iff (op:Int):(awid op = 0∧(op < 63 ∨ 84 < op)) ∨ (awid op ≠ 0∧63 ≤ op∧op ≤ 84):=by
  rcases (by omega:(63 ≤ op∧op ≤ 73) ∨ (74 ≤ op∧op ≤ 84) ∨ (op < 63 ∨ 84 < op)) with h | h | h
  · rw [awid4 h];omega
  · rw [awid8 h];omega
  · rw [awid0 h];omega
theorem amo_iff (op:Int):op ∈ amoOps ↔ (65 ≤ op∧op ≤ 73) ∨ (76 ≤ op∧op ≤ 84):=by
  simp only [amoOps,List.mem_cons,List.not_mem_nil,or_false];omega
theorem StepIs.one {L:List Rg} {M:Nat → Int} {ha hn op:Int} {a:Nat} {x:Int} {o p:Out} {M1 M2:Nat → Int} (h:StepIs L M ha hn op a x o M1) (k:StepIs L M ha hn op a x p M2):o = p∧M1 = M2:=by
  have hw:=awid_iff op
  have hm:=amo_iff op
  cases h with
  | none_ e01=>cases k with
    | none_ e02=>exact ⟨rfl,rfl⟩
    | align e02 e12=>exfalso;omega
    | scBad z2 e02 e12 f2=>exfalso;omega
    | scNo e02 e12 g2 n2=>exfalso;omega
    | scYes e02 e12 g2 n2=>exfalso;omega
    | lrBad z2 e02 e12 f2=>exfalso;omega
    | lrYes e02 e12 g2=>exfalso;omega
    | amBad z2 e02 e12 f2=>exfalso;rw [hm] at e02;omega
    | amNo z2 e02 e12 g2 f2=>exfalso;rw [hm] at e02;omega
    | amYes e02 e12 g2 f2=>exfalso;rw [hm] at e02;omega
  | align e01 e11=>cases k with
    | none_ e02=>exfalso;omega
    | align e02 e12=>exact ⟨rfl,rfl⟩
    | scBad z2 e02 e12 f2=>exfalso;omega
    | scNo e02 e12 g2 n2=>exfalso;omega
    | scYes e02 e12 g2 n2=>exfalso;omega
    | lrBad z2 e02 e12 f2=>exfalso;omega
    | lrYes e02 e12 g2=>exfalso;omega
    | amBad z2 e02 e12 f2=>exfalso;rw [hm] at e02;omega
    | amNo z2 e02 e12 g2 f2=>exfalso;rw [hm] at e02;omega
    | amYes e02 e12 g2 f2=>exfalso;rw [hm] at e02;omega
  | scBad z1 e01 e11 f1=>cases k with
    | none_ e02=>exfalso;omega
    | align e02 e12=>exfalso;omega
    | scBad z2 e02 e12 f2=>obtain rfl:=f1.one f2;exact ⟨rfl,rfl⟩
    | scNo e02 e12 g2 n2=>exact (FirstAt.not f1 g2).elim
    | scYes e02 e12 g2 n2=>exact (FirstAt.not f1 g2).elim
    | lrBad z2 e02 e12 f2=>exfalso;omega
    | lrYes e02 e12 g2=>exfalso;omega
    | amBad z2 e02 e12 f2=>exfalso;rw [hm] at e02;omega
    | amNo z2 e02 e12 g2 f2=>exfalso;rw [hm] at e02;omega
    | amYes e02 e12 g2 f2=>exfalso;rw [hm] at e02;omega
  | scNo e01 e11 g1 n1=>cases k with
    | none_ e02=>exfalso;omega
    | align e02 e12=>exfalso;omega
    | scBad z2 e02 e12 f2=>exact (FirstAt.not f2 g1).elim
    | scNo e02 e12 g2 n2=>exact ⟨rfl,rfl⟩
    | scYes e02 e12 g2 n2=>exact absurd n2 n1
    | lrBad z2 e02 e12 f2=>exfalso;omega
    | lrYes e02 e12 g2=>exfalso;omega
    | amBad z2 e02 e12 f2=>exfalso;rw [hm] at e02;omega
    | amNo z2 e02 e12 g2 f2=>exfalso;rw [hm] at e02;omega
    | amYes e02 e12 g2 f2=>exfalso;rw [hm] at e02;omega
  | scYes e01 e11 g1 n1=>cases k with
    | none_ e02=>exfalso;omega
    | align e02 e12=>exfalso;omega
    | scBad z2 e02 e12 f2=>exact (FirstAt.not f2 g1).elim
    | scNo e02 e12 g2 n2=>exact absurd n1 n2
    | scYes e02 e12 g2 n2=>exact ⟨rfl,rfl⟩
    | lrBad z2 e02 e12 f2=>exfalso;omega
    | lrYes e02 e12 g2=>exfalso;omega
    | amBad z2 e02 e12 f2=>exfalso;rw [hm] at e02;omega
    | amNo z2 e02 e12 g2 f2=>exfalso;rw [hm] at e02;omega
    | amYes e02 e12 g2 f2=>exfalso;rw [hm] at e02;omega
  | lrBad z1 e01 e11 f1=>cases k with
    | none_ e02=>exfalso;omega
    | align e02 e12=>exfalso;omega
    | scBad z2 e02 e12 f2=>exfalso;omega
    | scNo e02 e12 g2 n2=>exfalso;omega
    | scYes e02 e12 g2 n2=>exfalso;omega
    | lrBad z2 e02 e12 f2=>obtain rfl:=f1.one f2;exact ⟨rfl,rfl⟩
    | lrYes e02 e12 g2=>exact (FirstAt.not f1 g2).elim
    | amBad z2 e02 e12 f2=>exfalso;rw [hm] at e02;omega
    | amNo z2 e02 e12 g2 f2=>exfalso;rw [hm] at e02;omega
    | amYes e02 e12 g2 f2=>exfalso;rw [hm] at e02;omega
  | lrYes e01 e11 g1=>cases k with
    | none_ e02=>exfalso;omega
    | align e02 e12=>exfalso;omega
    | scBad z2 e02 e12 f2=>exfalso;omega
    | scNo e02 e12 g2 n2=>exfalso;omega
    | scYes e02 e12 g2 n2=>exfalso;omega
    | lrBad z2 e02 e12 f2=>exact (FirstAt.not f2 g1).elim
    | lrYes e02 e12 g2=>exact ⟨rfl,rfl⟩
    | amBad z2 e02 e12 f2=>exfalso;rw [hm] at e02;omega
    | amNo z2 e02 e12 g2 f2=>exfalso;rw [hm] at e02;omega
    | amYes e02 e12 g2 f2=>exfalso;rw [hm] at e02;omega
  | amBad z1 e01 e11 f1=>cases k with
    | none_ e02=>exfalso;rw [hm] at e01;omega
    | align e02 e12=>exfalso;rw [hm] at e01;omega
    | scBad z2 e02 e12 f2=>exfalso;rw [hm] at e01;omega
    | scNo e02 e12 g2 n2=>exfalso;rw [hm] at e01;omega
    | scYes e02 e12 g2 n2=>exfalso;rw [hm] at e01;omega
    | lrBad z2 e02 e12 f2=>exfalso;rw [hm] at e01;omega
    | lrYes e02 e12 g2=>exfalso;rw [hm] at e01;omega
    | amBad z2 e02 e12 f2=>obtain rfl:=f1.one f2;exact ⟨rfl,rfl⟩
    | amNo z2 e02 e12 g2 f2=>exact (FirstAt.not f1 g2).elim
    | amYes e02 e12 g2 f2=>exact (FirstAt.not f1 g2).elim
  | amNo z1 e01 e11 g1 f1=>cases k with
    | none_ e02=>exfalso;rw [hm] at e01;omega
    | align e02 e12=>exfalso;rw [hm] at e01;omega
    | scBad z2 e02 e12 f2=>exfalso;rw [hm] at e01;omega
    | scNo e02 e12 g2 n2=>exfalso;rw [hm] at e01;omega
    | scYes e02 e12 g2 n2=>exfalso;rw [hm] at e01;omega
    | lrBad z2 e02 e12 f2=>exfalso;rw [hm] at e01;omega
    | lrYes e02 e12 g2=>exfalso;rw [hm] at e01;omega
    | amBad z2 e02 e12 f2=>exact (FirstAt.not f2 g1).elim
    | amNo z2 e02 e12 g2 f2=>obtain rfl:=f1.one f2;exact ⟨rfl,rfl⟩
    | amYes e02 e12 g2 f2=>exact (FirstAt.not f1 f2).elim
  | amYes e01 e11 g1 f1=>cases k with
    | none_ e02=>exfalso;rw [hm] at e01;omega
    | align e02 e12=>exfalso;rw [hm] at e01;omega
    | scBad z2 e02 e12 f2=>exfalso;rw [hm] at e01;omega
    | scNo e02 e12 g2 n2=>exfalso;rw [hm] at e01;omega
    | scYes e02 e12 g2 n2=>exfalso;rw [hm] at e01;omega
    | lrBad z2 e02 e12 f2=>exfalso;rw [hm] at e01;omega
    | lrYes e02 e12 g2=>exfalso;rw [hm] at e01;omega
    | amBad z2 e02 e12 f2=>exact (FirstAt.not f2 g1).elim
    | amNo z2 e02 e12 g2 f2=>exact (FirstAt.not f2 f1).elim
    | amYes e02 e12 g2 f2=>exact ⟨rfl,rfl⟩
end Go.Proofs.YtlhpodholnfppaaGreatDoor
