/-
  A space of the reference: New, Lay, as a whole.
  Up, whole, Unmap, Protect of a space.
  find, Map.
  Pages of a space; what a program that does nothing does not answer.
  Touch of a store.
  Put of a space: bytes are laid, whatever may be done there, but for what is not mapped.
-/
import Derived.Test.YtbngjbmfkekdnaaGreatDoorT8
import Derived.Deep.Cut
import Derived.IntWalk
import Derived.Test.YtbngjbmfkekdnaaGreatDoorT7
import Derived.Lib.Hide
set_option linter.unusedVariables false
set_option linter.unusedSimpArgs false
set_option maxHeartbeats 16000000
open Go.Lib (hid)
namespace Go.Proofs.YtbngjbmfkekdnaaGreatDoor
open Go.RowKit
set_option maxRecDepth 100000
theorem rnewm_any (m:Int) (h0:0 ≤ m) (h1:m ≤ 4096) (w:World):Calls Tryz.prog 7 #[.int .i64 m] w fun e w'=>e = .returned (addr0 w.heap.size)∧RP (only w.heap.size) w' w.heap.size [] (fun _=>0) m 0 0∧Bl w w'∧w.heap.size < w'.heap.size:=by
  go_enter Tryz.func7,Tryz.ntmps7
  go_wp2
  go_ret
  exact ⟨rfl,⟨⟨_,heap_alloc_new w _,RowG.nil,fun g hg=>(by cases hg)⟩,rfl,Pgs.nil _,fun x hx=>(by cases hx),by simpa using h0,⟨h0,h1⟩,fun _=>(by omega),fun x hx=>(by cases hx),List.Pairwise.nil,fun _ _=>rfl⟩,Bl.new _ _,by simp⟩
section
variable {S:Nat → Prop} {mo b0 b1:Int} {w w':World} {rb:Nat} {P P':List Pg} {M:Nat → Int}
theorem pageOf_wiped_out {M:Nat → Int} {s t p:Nat} (h:p * 4096 + 4096 ≤ s ∨ t ≤ p * 4096):pageOf (wiped M s t) p = pageOf M p:=pageOf_other _ _ _ fun o ho=>by
  simp only [wiped];rw [if_neg (by omega)]
theorem pageOf_wiped_in {M:Nat → Int} {s t p:Nat} (h:s ≤ p * 4096) (h2:p * 4096 + 4096 ≤ t):pageOf (wiped M s t) p = List.replicate 4096 0:=pageOf_zero _ _ fun o ho=>by
  simp only [wiped];rw [if_pos (by omega)]
theorem RP.laid (h:RP S w rb P M mo b0 b1) (hS:∀ b,w.heap.size ≤ b → S b) {s t:Nat} {p:Int} (hp:0 ≤ p∧p ≤ 7) (hs:s % 4096 = 0) (ht:t % 4096 = 0) (hst:s < t)
    (hsp:SpaceFrom w.heap.size mo b0 b1 w' rb P') (hpg:Pgs 67108864 P') (hset:SetAs P P' s t p) (hl:LaidP w w' P P' s t p) (hf:Fr (only rb) w w') (hlen:(P'.length:Int) ≤ mo):RP S w' rb P' (wiped M s t) mo b0 b1:=by
  obtain ⟨v,h1,h2⟩:=hsp
  obtain ⟨k,N,hP',hN,hZ⟩:=hl
  have hold:∀ x,x ∈ outP P s t → S x.b∧x.b < w.heap.size∧w'.heap[x.b]? = some (byteRow (wiped M s t) x.no):=fun x hx=>by
    obtain ⟨hx1,hx2⟩:=outP_mem.1 hx
    obtain ⟨h4,h5⟩:=h.pages x hx1
    have h6:=h.pgs.2 x hx1
    refine ⟨h4,lt_at h5,?_⟩
    rw [hf.at_ h5 (fun e=>by
      obtain ⟨v0,h7,_⟩:=h.sp
      rw [show x.b = rb from e,h7] at h5
      exact absurd (cells_ty h5) (by decide))]
    unfold byteRow
    rw [pageOf_wiped_out (by omega)]
  have hnew:∀ x,x ∈ N → w.heap.size ≤ x.b∧w'.heap[x.b]? = some (byteRow (wiped M s t) x.no):=fun x hx=>by
    obtain ⟨h4,h5⟩:=hZ.z x hx
    obtain ⟨h6,h7,h8⟩:=hN.mem hx
    refine ⟨h4,?_⟩
    rw [h5]
    unfold byteRow zero4
    rw [pageOf_wiped_in (by omega) (by omega)]
  have hmem:∀ x,x ∈ P' → x ∈ outP P s t ∨ x ∈ N:=fun x hx=>by
    rw [hP'] at hx
    rcases List.mem_append.1 hx with hx | hx
    · rcases List.mem_append.1 hx with hx | hx
      · exact .inl (List.mem_of_mem_take hx)
      · exact .inr hx
    · exact .inl (List.mem_of_mem_drop hx)
  refine ⟨⟨v,h1,h2.base_ (fun g hg=>Nat.zero_le _),fun g hg=>hS g (h2.lt g hg).1⟩,h.own,hpg,fun x hx=>?_,hlen,h.mo_,fun x=>?_,fun x hx=>?_,?_,fun a ha=>?_⟩
  · rcases hmem x hx with hx | hx
    · exact h.pr x (outP_mem.1 hx).1
    · rw [(hN.mem hx).2.2];exact hp
  · simp only [wiped];split
    · omega
    · exact h.by_ x
  · rcases hmem x hx with hx | hx
    · exact ⟨(hold x hx).1,(hold x hx).2.2⟩
    · exact ⟨hS _ (hnew x hx).1,(hnew x hx).2⟩
  · rw [hP']
    have ho:(outP P s t).Pairwise fun x y=>x.b ≠ y.b:=h.apart.sublist List.filter_sublist
    refine List.pairwise_append.2 ⟨List.pairwise_append.2 ⟨ho.sublist (List.take_sublist _ _),hZ.d,fun x hx y hy=>?_⟩,ho.sublist (List.drop_sublist _ _),fun x hx y hy=>?_⟩
    · have g1:=(hold x (List.mem_of_mem_take hx)).2.1
      have g2:=(hnew y hy).1
      omega
    · rcases List.mem_append.1 hx with hx | hx
      · rw [← List.take_append_drop k (outP P s t)] at ho
        exact (List.pairwise_append.1 ho).2.2 x hx y hy
      · have g1:=(hold y (List.mem_of_mem_drop hy)).2.1
        have g2:=(hnew x hx).1
        omega
  · simp only [wiped]
    split
    · rfl
    · exact h.out a fun q hq=>ha q ((hset a q).2 (.inr ⟨by omega,hq⟩))
def RLayIs (S:Nat → Prop) (w:World) (rb:Nat) (P:List Pg) (M:Nat → Int) (mo b0 b1:Int) (s t:Nat) (p:Int) (e:Ending) (w':World):Prop:=∃ r,e = .returned (.int .i64 r) ∧
  ((r = 0∧∃ P',RP S w' rb P' (wiped M s t) mo b0 b1∧SetAs P P' s t p∧Fr S w w'∧(regs P').length ≤ 256) ∨ (r = 12∧LayNo mo w P s t p w'))
theorem rp_lay (h:RP S w rb P M mo b0 b1) (hS:∀ b,w.heap.size ≤ b → S b) (s t:Nat) (p:Int) (hp:0 ≤ p∧p ≤ 7) (hs:Span (s:Int) (t:Int)) :
    Calls Tryz.prog 10 #[addr0 rb,.int .u64 (s:Int),.int .u64 (t:Int),.int .i64 p] w (RLayIs S w rb P M mo b0 b1 s t p):=by
  have hs2:=hs
  obtain ⟨s1,s2,s3,s4⟩:=hs2
  refine (rlay_any h.space h.pgs (by have:=h.few;omega) s t p (by omega) hs h.mo_.1 h.mo_.2).mono ?_
  rintro e w' ⟨r,rfl,hr⟩
  refine ⟨r,rfl,?_⟩
  rcases hr with ⟨h1,P',g1,g2,g3,g4,g5,g6,g7,g8⟩ | hr
  · refine .inl ⟨h1,P',h.laid hS hp (by omega) (by omega) (by omega) g1 g2 g3 g4 g5 g6,g3,g5.mono fun b _ e=>by rw [show b = rb from e];exact h.own,g7⟩
  · exact .inr hr
end
end Go.Proofs.YtbngjbmfkekdnaaGreatDoor

namespace Go.Proofs.YtbngjbmfkekdnaaGreatDoor
open Go.RowKit
set_option maxRecDepth 100000
theorem rfup_any (n:Int) (w:World) (h0:0 ≤ n) (h1:n ≤ 274877906944):Calls Tryz.prog 74 #[.int .u64 n] w fun e w'=>e = .returned (.int .u64 ((n + 4095) / 4096 * 4096))∧w = w':=by
  go_enter Tryz.func74,Tryz.ntmps74
  go_wp2
  go_ret
  exact ⟨rfl,rfl⟩
theorem rfup_whole {n:Int} (h:n % 4096 = 0):(n + 4095) / 4096 * 4096 = n:=by omega
theorem rfwhole_any (s t:Int) (w:World) (h0:0 ≤ s) (hs:Span s t):Calls Tryz.prog 41 #[.int .u64 s,.int .u64 (t - s)] w fun e w'=>e = .returned (.tuple #[.int .u64 t,.bool true])∧w = w':=by
  obtain ⟨a1,a2,a3,a4⟩:=id hs
  have cs:=fun W=>refSpan_yes s t W h0 hs
  have cu:=fun W=>rfup_any (t - s) W (by omega) (by omega)
  simp only [rfup_whole (show (t - s) % 4096 = 0 by omega)] at cu
  have CS:=hid cs;clear cs hs
  have CU:=hid cu;clear cu
  have d1:0 < t - s:=by omega
  have d2:t - s ≤ 274877906944:=by omega
  have d3:s ≤ 274877906944:=by omega
  have he:s + (t - s) = t:=by omega
  have HE:=hid he;clear he
  have t0:(t - s == 0) = false:=by simp;omega
  obtain ⟨d,hd⟩:∃ d,d = t - s:=⟨_,rfl⟩
  rw [← hd] at CU d1 d2 HE t0 ⊢
  have HD:=hid hd;clear hd a1 a2
  have d4:s + d ≤ 274877906944:=by have:=HE.out;omega
  go_enter Tryz.func41,Tryz.ntmps41
  go_wp2_with fail
  refine (CU.out _).mono ?_
  rintro e w' ⟨rfl,rfl⟩
  go_wp2_with fail
  refine (CU.out _).mono ?_
  rintro e w' ⟨rfl,rfl⟩
  go_wp2_with fail
  rw [HE.out]
  refine (CS.out _).mono ?_
  rintro e w' ⟨rfl,rfl⟩
  go_wp2_with fail
  go_ret2
  exact ⟨rfl,rfl⟩
def RCutPost (mo b0 b1:Int) (w:World) (sb:Nat) (P:List Pg) (s t:Int) (e:Ending) (w':World):Prop:=e = .returned (.int .i64 0)∧SpaceFrom w.heap.size mo b0 b1 w' sb (outP P s t)∧Fr (only sb) w w'
theorem rfunmap_any {mo b0 b1:Int} {w:World} {sb:Nat} {P:List Pg} (h:SpaceAt mo b0 b1 w sb P) (hp:Pgs 67108864 P) (hl:P.length ≤ 256) (s t:Int) (h0:0 ≤ s) (hs:Span s t) :
    Calls Tryz.prog 19 #[addr0 sb,.int .u64 s,.int .u64 (t - s)] w (RCutPost mo b0 b1 w sb P s t):=by
  have cw:=fun W=>rfwhole_any s t W h0 hs
  have co:=without_any h hp (by omega) s t
  obtain ⟨vs,hvs,hvr⟩:=id h
  have hfz:w.frozen? ⟨sb,0,none⟩ = false:=by simp [World.frozen?,hvs]
  have hlt:=h.lt
  have hpo:=outP_pgs (s:=s) (e:=t) hp
  have hon:=fun a q=>outP_on (P:=P) (a:=a) (q:=q) hs.1 hs.2.1 hs.2.2.1
  have CW:=hid cw;clear cw
  have CO:=hid co;clear co
  have HH:=hid h;clear h hvs hvr vs hp
  have HFZ:=hid hfz;clear hfz
  have HLT:=hid hlt;clear hlt
  obtain ⟨R,hR⟩:∃ R,R = outP P s t:=⟨_,rfl⟩
  rw [← hR] at hpo CO
  simp only [← hR] at hon
  have hRl:R.length ≤ 256:=by rw [hR];exact Nat.le_trans (outP_len P s t) hl
  have HREQ:=hid hR
  clear hR hs
  have HPO:=hid hpo;clear hpo
  have HON:=hid hon;clear hon
  obtain ⟨d,hd⟩:∃ d,d = t - s:=⟨_,rfl⟩
  rw [← hd] at CW ⊢
  clear hd
  unfold addr0 at *
  go_enter Tryz.func19,Tryz.ntmps19
  go_wp2_with fail
  refine (CW.out _).mono ?_
  rintro e w' ⟨rfl,rfl⟩
  go_wp2_with fail
  refine CO.out.mono ?_
  rintro e w1 ⟨v1,rfl,r1,k1⟩
  have hrl:=hid ((regs_all HPO.out (by omega)).2.2.2)
  obtain ⟨A1,cap1,hv1⟩:=r1.shape
  subst hv1
  have R1:=hid r1;clear r1
  have K1:=hid k1;clear k1
  go_wp2_with fail
  refine (regions_any R1.out HPO.out (by omega)).mono ?_
  rintro e w2 ⟨v2,rfl,r2,k2⟩
  obtain ⟨A2,cap2,hv2⟩:=r2.shape
  obtain ⟨rl,hrl2⟩:∃ rl,rl = (regs R).length:=⟨_,rfl⟩
  rw [← hrl2] at hv2 hrl
  have hrlI:(rl:Int) ≤ 256:=by have:=hrl.out;omega
  subst hv2
  clear hrl2 r2
  have K2:=hid (K1.out.trans k2)
  have R2:=hid (R1.out.bl k2);clear k2
  obtain ⟨AS,capS,e0,e1,_⟩:=(HH.out.bl K2.out).cells
  have f0:w2.frozen? ⟨sb,0,none⟩ = false:=by rw [K2.out.frozen (p:=⟨sb,0,none⟩) HLT.out];exact HFZ.out
  go_wp2_with fail
  go_ret
  exact ⟨rfl,by rw [← HREQ.out];exact (HH.out.bl K2.out).setFrom R2.out (by first | exact Nat.le_refl _ | exact K2.out.size),(Fr.of_bl K2.out).trans (Fr.set (by exact rfl) _)⟩
theorem pflat_set (L:List Pg) (k:Nat) (x:Pg) (p:Int) (hk:L[k]? = some x):(flat pgC L).set (k * 3 + 1) (.int .i64 p) = flat pgC (L.set k ⟨x.no,p,x.b⟩):=by
  induction L generalizing k with
  | nil=>cases hk
  | cons y L ih =>
    have e:∀ (z:Pg) (M:List Pg),flat pgC (z :: M) = pgC z ++ flat pgC M:=fun z M=>by simp [flat]
    cases k with
    | zero =>
      simp only [List.getElem?_cons_zero,Option.some.injEq] at hk
      subst hk
      rw [List.set_cons_zero,e,e]
      rfl
    | succ k =>
      rw [List.getElem?_cons_succ] at hk
      rw [List.set_cons_succ,e,e,← ih k hk,List.set_append,if_neg (by rw [pgC_len];omega),pgC_len,show (k + 1) * 3 + 1 - 3 = k * 3 + 1 by omega]
theorem prow_set {w:World} {base g cap n:Nat} {L:List Pg} (h:PRow w base (.slice (some ⟨g,0,none⟩) n cap) L) (k:Nat) (x:Pg) (p:Int) (hk:L[k]? = some x) :
    PRow (w.setCell ⟨g,k * 3 + 1,none⟩ (.int .i64 p)) base (.slice (some ⟨g,0,none⟩) n cap) (L.set k ⟨x.no,p,x.b⟩):=by
  have hne:L ≠ []:=by intro e;rw [e] at hk;cases hk
  have hn:n = L.length:=by obtain ⟨_,_,_,h1,_⟩:=h.form hne;injection h1
  subst hn
  refine ⟨?_,fun e=>?_⟩
  · have h1:=(h.1.stored (k * 3 + 1) (.int .i64 p)).1
    rw [pflat_set L k x p hk] at h1
    simpa using h1
  · have:=congrArg List.length e
    simp at this
    exact absurd this hne
def RSetPost (mo b0 b1:Int) (w:World) (sb:Nat) (P:List Pg) (s t p:Int) (e:Ending) (w':World):Prop:=e = .returned (.int .i64 0)∧SpaceFrom w.heap.size mo b0 b1 w' sb (protP P s t p)∧(∀ a q,OnP (protP P s t p) a q ↔ (s ≤ a∧a < t∧p = q) ∨ ((a < s ∨ t ≤ a)∧OnP P a q))∧Fr (only sb) w w'
def halfP (f:Pg → Pg) (P:List Pg) (k:Nat):List Pg:=(P.take k).map f ++ P.drop k
theorem halfP_zero (f:Pg → Pg) (P:List Pg):halfP f P 0 = P:=by simp [halfP]
theorem halfP_all (f:Pg → Pg) (P:List Pg):halfP f P P.length = P.map f:=by simp [halfP]
theorem halfP_get (f:Pg → Pg) (P:List Pg) (k:Nat) (x:Pg) (h:P[k]? = some x):(halfP f P k)[k]? = some x:=by
  have hk:=(List.getElem?_eq_some_iff.1 h).1
  have hl:((P.take k).map f).length = k:=by simp;omega
  rw [halfP,List.getElem?_append_right (by omega),hl,List.getElem?_drop]
  simpa using h
theorem halfP_next (f:Pg → Pg) (P:List Pg) (k:Nat) (x:Pg) (h:P[k]? = some x):halfP f P (k + 1) = (halfP f P k).set k (f x):=by
  have hk:=(List.getElem?_eq_some_iff.1 h).1
  have hl:((P.take k).map f).length = k:=by simp;omega
  have hd:P.drop k = x :: P.drop (k + 1):=by
    rw [List.drop_eq_getElem_cons hk]
    congr 1
    rw [List.getElem?_eq_getElem hk] at h;injection h
  rw [halfP,halfP,hd,List.set_append,if_neg (by omega),hl,Nat.sub_self,List.set_cons_zero,List.take_add_one,h]
  simp
def pfP (s t p:Int) (x:Pg):Pg:=if s ≤ x.no * 4096∧x.no * 4096 < t then ⟨x.no,p,x.b⟩ else x
theorem protP_eq (P:List Pg) (s t p:Int):protP P s t p = P.map (pfP s t p):=rfl
theorem pset_same (L:List Pg) (k:Nat) (x:Pg) (h:L[k]? = some x):L.set k x = L:=by
  apply List.ext_getElem?
  intro j
  rw [List.getElem?_set]
  split
  · rename_i hj
    subst hj
    rw [h]
    simp [(List.getElem?_eq_some_iff.1 h).1]
  · rfl
theorem rfprotect_hole {mo b0 b1:Int} {w:World} {sb:Nat} {P:List Pg} (h:SpaceAt mo b0 b1 w sb P) (hp:Pgs 67108864 P) (hl:P.length ≤ 256) (s t p:Int) (h0:0 ≤ s) (hs:Span s t) (hp0:0 ≤ p) (hp1:p ≤ 7) (hm:¬ ∀ y,s ≤ y → y < t → ∃ q,OnP P y q) :
    Calls Tryz.prog 17 #[addr0 sb,.int .u64 s,.int .u64 (t - s),.int .i64 p] w (NoPost w 12):=by
  have cw:=fun W=>rfwhole_any s t W h0 hs
  have co:=fun W (k:Bl w W)=>without_any (h.bl k) hp (by omega) s t
  obtain ⟨s1,s2,s3,s4⟩:=hs
  obtain ⟨hcnt,hle⟩:=count_span (P:=P) hp s1 s2 s3
  have CW:=hid cw;clear cw
  have CO:=hid co;clear co
  have HM:=hid hm;clear hm
  have HC:=hid hcnt;clear hcnt
  have HS1:=hid s1;clear s1
  have HS2:=hid s2;clear s2
  have hlen:=hl
  obtain ⟨AS,capS,e0,_,hpr⟩:=h.cells
  have HP:=hid hp;clear hp
  have HPR:=hid hpr;clear hpr
  obtain ⟨d,hd⟩:∃ d,d = t - s:=⟨_,rfl⟩
  rw [← hd] at CW ⊢
  have hd4:(t - s) / 4096 = d / 4096:=by rw [hd]
  have HD4:=hid hd4;clear hd4
  have hts:s ≤ t:=by omega
  have hd0:0 ≤ (t - s) / 4096:=by omega
  have HD:=hid hd;clear hd
  have hlenI:(P.length:Int) ≤ 256:=by omega
  obtain ⟨n,hn⟩:∃ n,n = P.length:=⟨_,rfl⟩
  rw [← hn] at hlenI e0 HPR HC hle hlen
  have HN:=hid hn;clear hn
  obtain ⟨R,hR⟩:∃ R,R = outP P s t:=⟨_,rfl⟩
  simp only [← hR] at HC CO hle
  obtain ⟨m,hmm⟩:∃ m,m = R.length:=⟨_,rfl⟩
  simp only [← hmm] at HC hle
  clear hR
  have hmI:(m:Int) ≤ (n:Int):=by omega
  have HMM:=hid hmm;clear hmm
  have k0:Bl w w.drew:=(Bl.refl w).drew
  have HS0:Hid (w.drew.cell? ⟨sb,0,none⟩ = some (.slice AS n capS)∧Bl w w.drew):=hid ⟨e0,k0⟩
  have HE0:=hid e0;clear e0 k0
  have HH:=hid h;clear h
  have hwb:IntKind.u64.wrap (IntKind.i64.wrap ((n:Int) - (m:Int))) = (n:Int) - (m:Int)∧IntKind.u64.wrap ((IntKind.u64.wrap (t - s)).tdiv 4096) = (t - s) / 4096:=by
    rw [IntWalk.i64_in _ (by omega),IntWalk.u64_in _ (by omega),IntWalk.u64_in (t - s) (by omega),Int.tdiv_eq_ediv_of_nonneg (by omega),IntWalk.u64_in _ (by omega)]
    exact ⟨rfl,rfl⟩
  have tb:(IntKind.u64.wrap (IntKind.i64.wrap ((n:Int) - (m:Int))) != IntKind.u64.wrap ((IntKind.u64.wrap (t - s)).tdiv 4096)) = true:=by
    rw [hwb.1,hwb.2]
    simp only [bne_iff_ne,ne_eq]
    exact fun e=>HM.out (HC.out.1 e)
  have HSX:=hid s4;clear s4 hwb
  unfold addr0 at *
  go_enter Tryz.func17,Tryz.ntmps17
  go_wp2_with fail
  refine (CW.out _).mono ?_
  rintro e w' ⟨rfl,rfl⟩
  go_wp2_with fail
  go_region_held3 (fun w'=>w'.cell? ⟨sb,0,none⟩ = some (.slice AS n capS)∧Bl w w') (first | assumption | exact HS0.out | exact ⟨HE0.out,Bl.refl _⟩) ((go_at_call 29;refine (CO.out _ (by first | assumption | exact HS0.out.2 | (rename_i hh;exact hh.2))).mono ?_;rintro e w9 ⟨v9,rfl,r9,k9⟩;obtain ⟨A9,cap9,hv9⟩:=r9.shape;rw [← HMM.out] at hv9;subst hv9;clear r9;have hkk:w9.cell? ⟨sb,0,none⟩ = some (.slice AS n capS)∧Bl w w9:=⟨k9.cell' (by first | assumption | exact HE0.out),(by first | exact HS0.out.2.trans k9 | exact (Bl.refl _).trans k9)⟩))
  all_goals go_wp2_with fail
  all_goals go_ret
  all_goals exact ⟨rfl,hkk.2⟩
theorem rfprotect_ok {mo b0 b1:Int} {w:World} {sb:Nat} {P:List Pg} (h:SpaceAt mo b0 b1 w sb P) (hp:Pgs 67108864 P) (hl:P.length ≤ 256) (s t p:Int) (h0:0 ≤ s) (hs:Span s t) (hp0:0 ≤ p) (hp1:p ≤ 7) (hm:∀ y,s ≤ y → y < t → ∃ q,OnP P y q) :
    Calls Tryz.prog 17 #[addr0 sb,.int .u64 s,.int .u64 (t - s),.int .i64 p] w (RSetPost mo b0 b1 w sb P s t p):=by
  have cw:=fun W=>rfwhole_any s t W h0 hs
  have co:=fun W (k:Bl w W)=>without_any (h.bl k) hp (by omega) s t
  obtain ⟨s1,s2,s3,s4⟩:=hs
  obtain ⟨hcnt,hle⟩:=count_span (P:=P) hp s1 s2 s3
  have CW:=hid cw;clear cw
  have CO:=hid co;clear co
  have HM:=hid hm;clear hm
  have HC:=hid hcnt;clear hcnt
  have HS1:=hid s1;clear s1
  have HS2:=hid s2;clear s2
  have hlen:=hl
  obtain ⟨AS,capS,e0,_,hpr⟩:=h.cells
  have HP:=hid hp;clear hp
  have HPR:=hid hpr;clear hpr
  obtain ⟨d,hd⟩:∃ d,d = t - s:=⟨_,rfl⟩
  rw [← hd] at CW ⊢
  have hd4:(t - s) / 4096 = d / 4096:=by rw [hd]
  have HD4:=hid hd4;clear hd4
  have hts:s ≤ t:=by omega
  have hd0:0 ≤ (t - s) / 4096:=by omega
  have HD:=hid hd;clear hd
  have hlenI:(P.length:Int) ≤ 256:=by omega
  obtain ⟨n,hn⟩:∃ n,n = P.length:=⟨_,rfl⟩
  rw [← hn] at hlenI e0 HPR HC hle hlen
  have HN:=hid hn;clear hn
  obtain ⟨R,hR⟩:∃ R,R = outP P s t:=⟨_,rfl⟩
  simp only [← hR] at HC CO hle
  obtain ⟨m,hmm⟩:∃ m,m = R.length:=⟨_,rfl⟩
  simp only [← hmm] at HC hle
  clear hR
  have hmI:(m:Int) ≤ (n:Int):=by omega
  have HMM:=hid hmm;clear hmm
  have k0:Bl w w.drew:=(Bl.refl w).drew
  have HS0:Hid (w.drew.cell? ⟨sb,0,none⟩ = some (.slice AS n capS)∧Bl w w.drew):=hid ⟨e0,k0⟩
  have HE0:=hid e0;clear e0 k0
  have HH:=hid h;clear h
  have hwb:IntKind.u64.wrap (IntKind.i64.wrap ((n:Int) - (m:Int))) = (n:Int) - (m:Int)∧IntKind.u64.wrap ((IntKind.u64.wrap (t - s)).tdiv 4096) = (t - s) / 4096:=by
    rw [IntWalk.i64_in _ (by omega),IntWalk.u64_in _ (by omega),IntWalk.u64_in (t - s) (by omega),Int.tdiv_eq_ediv_of_nonneg (by omega),IntWalk.u64_in _ (by omega)]
    exact ⟨rfl,rfl⟩
  have tb:(IntKind.u64.wrap (IntKind.i64.wrap ((n:Int) - (m:Int))) != IntKind.u64.wrap ((IntKind.u64.wrap (t - s)).tdiv 4096)) = false:=by
    rw [hwb.1,hwb.2]
    simp only [bne_eq_false_iff_eq]
    exact HC.out.2 HM.out
  have HSX:=hid s4;clear s4 hwb
  unfold addr0 at *
  go_enter Tryz.func17,Tryz.ntmps17
  go_wp2_with fail
  refine (CW.out _).mono ?_
  rintro e w' ⟨rfl,rfl⟩
  go_wp2_with fail
  go_region_held3 (fun w'=>w'.cell? ⟨sb,0,none⟩ = some (.slice AS n capS)∧Bl w w') (first | assumption | exact HS0.out | exact ⟨HE0.out,Bl.refl _⟩) ((go_at_call 29;refine (CO.out _ (by first | assumption | exact HS0.out.2 | (rename_i hh;exact hh.2))).mono ?_;rintro e w9 ⟨v9,rfl,r9,k9⟩;obtain ⟨A9,cap9,hv9⟩:=r9.shape;rw [← HMM.out] at hv9;subst hv9;clear r9;have hkk:w9.cell? ⟨sb,0,none⟩ = some (.slice AS n capS)∧Bl w w9:=⟨k9.cell' (by first | assumption | exact HE0.out),(by first | exact HS0.out.2.trans k9 | exact (Bl.refl _).trans k9)⟩))
  go_upto_region 6 with (fail)
  clear tb
  obtain ⟨hk1,hk2⟩:=hkk
  have K9:=hid hk2;clear hk2
  have hPne:P ≠ []:=by
    obtain ⟨q,x,hx,_⟩:=HM.out s (by omega) (by omega)
    intro e;rw [e] at hx;cases hx
  have hpr9:=HPR.out.bl K9.out
  obtain ⟨g,capx,cur,hA,_,hnc,hg,_⟩:=hpr9.form hPne
  have hA':AS = some ⟨g,0,none⟩:=by injection hA
  subst hA'
  clear hA hnc hg
  obtain ⟨i0,hi0,hz0,hz1,hz2⟩:=info_parts infoPg
  have hown:(w9.alloc (.cells #[] 75)).ownsRow w9.heap.size 75 3 (.slice (some ⟨w9.heap.size,0,none⟩) 0 0) 0 []:=World.ownsRow_made w9 #[] 0 (Nat.le_refl _) (by decide) rfl
  have hrow2:=hpr9.bl (Bl.new w9 (.cells #[] 75))
  have hrow3:=hrow2.1
  rw [← HN.out] at hrow3
  obtain ⟨v',W',hrun,h2,h3,h4,h5⟩:=run_append_own_at (P:=Tryz.prog) (w9.alloc (.cells #[] 75)) w9.heap.size 66 66 75 i0 _ 3 40 Tryz.underlying66 hi0 hz0 hz1 hz2 rfl (by omega) _ 0 [] hown ⟨g,0,none⟩ n capS (flat pgC P) (by rw [flat_length pgC_len,HN.out]) (fun j u hj=>by
    have e1:(⟨g,0,none⟩:Addr).add j = ⟨g,j,none⟩:=by unfold Addr.add;split <;> simp_all
    have hj2:j < n * 3:=by rw [HN.out,← flat_length pgC_len P];exact (List.getElem?_eq_some_iff.1 hj).1
    rw [e1,hrow3.cellAt j hj2];exact hj) (fun u hu=>by
      simp only [flat,List.mem_flatMap] at hu
      obtain ⟨x,_,hx⟩:=hu
      exact pgC_one x u hx) (by simp only [maxLen];omega) (by omega) (by simp)
  have hrowW:PRow W' w9.heap.size v' P:=⟨by rw [← HN.out];simpa using h2,fun e=>absurd e hPne⟩
  have hblW:Bl w9 W':=Below.grown (Bl.new w9 _) h3 (by simp) (fun k hk=>by simp [Value.ownBlock] at hk;omega)
  obtain ⟨g2,cap2,cur2,hv2,hbg2,_,_,_⟩:=hrowW.form hPne
  rw [← HN.out] at hv2
  subst hv2
  have HROWW:=hid hrowW;clear hrowW
  have HBLW:=hid hblW;clear hblW h2 h3 h4 h5 hown hrow2 hrow3 hpr9 hi0 hz0 hz1 hz2
  have HRUN:=hid hrun;clear hrun
  have HNE:=hid hPne;clear hPne
  have hk1':=(Bl.new w9 (.cells #[] 75)).cell' hk1
  have hsl9:=block_lt_of_cell hk1
  go_upto_region 7 with (first | (at_builtin;refine wpl_append_run rfl (.tmp 46) (.tmp 50) 66 rfl _ _ _ rfl rfl HRUN.out ?_))
  clear hk1 hk1' hsl9
  go_wp2_with fail
  go_loopw [12] (fun i wr=>∃ k:Nat,k ≤ n∧i = .int .i64 k∧PRow wr w9.heap.size (.slice (some ⟨g2,0,none⟩) n cap2) (halfP (pfP s t p) P k)∧Bl w9 wr) (fun i _=>n - (intOf i).toNat)
  case atStart=>exact ⟨0,by omega,rfl,by rw [halfP_zero];exact HROWW.out,HBLW.out⟩
  case round =>
    obtain ⟨k,hk,rfl,hrow,hbl⟩:=hrel
    have HROW:=hid hrow;clear hrow
    have HBL:=hid hbl;clear hbl
    have hkI:(k:Int) ≤ (n:Int):=by omega
    by_cases hlt:k < n
    · have hltL:k < P.length:=by have:=HN.out;omega
      obtain ⟨x,hx⟩:∃ x,P[k]? = some x:=⟨P[k],List.getElem?_eq_getElem hltL⟩
      have hhx:=halfP_get (pfP s t p) P k x hx
      have hnx:=halfP_next (pfP s t p) P k x hx
      obtain ⟨c0,c1,c2⟩:=prow_cells HROW.out k x hhx
      obtain ⟨x1,x2⟩:=HP.out.2 x (List.mem_of_getElem? hx)
      have x3:x.no < 67108864:=x2
      have hltI:(k:Int) < (n:Int):=by omega
      have f1:=HROW.out.free (k * 3 + 1)
      clear x2 hltL hx
      by_cases ha:s ≤ x.no * 4096
      · by_cases hb:x.no * 4096 < t
        · have hst:=prow_set HROW.out k x p hhx
          have hpf:pfP s t p x = ⟨x.no,p,x.b⟩:=if_pos ⟨ha,hb⟩
          rw [hpf] at hnx
          rw [← hnx] at hst
          have HST:=hid hst;clear hst hnx hhx hpf
          go_wp2_with fail
          refine ⟨⟨k + 1,by omega,by go_num,HST.out,HBL.out.set hbg2 _⟩,?_⟩
          simp only [intOf];omega
        · have hb':t ≤ x.no * 4096:=by omega
          have hpf:pfP s t p x = x:=if_neg (fun h=>hb h.2)
          rw [hpf,pset_same _ _ _ hhx] at hnx
          have HNX:=hid hnx;clear hnx hhx hpf
          go_wp2_with fail
          refine ⟨⟨k + 1,by omega,by go_num,by rw [HNX.out];exact HROW.out,HBL.out⟩,?_⟩
          simp only [intOf];omega
      · have ha':x.no * 4096 < s:=by omega
        have hpf:pfP s t p x = x:=if_neg (fun h=>ha h.1)
        rw [hpf,pset_same _ _ _ hhx] at hnx
        have HNX:=hid hnx;clear hnx hhx hpf
        go_wp2_with fail
        refine ⟨⟨k + 1,by omega,by go_num,by rw [HNX.out];exact HROW.out,HBL.out⟩,?_⟩
        simp only [intOf];omega
    · have hge:(n:Int) ≤ (k:Int):=by omega
      have hfin:=HROW.out
      rw [show k = P.length by have:=HN.out;omega,halfP_all,← protP_eq] at hfin
      obtain ⟨Q,hQ⟩:∃ Q,Q = protP P s t p:=⟨_,rfl⟩
      have hqp:=protP_pgs (s:=s) (e:=t) (p:=p) HP.out
      have hqo:=fun a q=>protP_on (P:=P) (p:=p) (a:=a) (q:=q) HS1.out HS2.out HM.out
      simp only [← hQ] at hfin hqp hqo
      have hQl:Q.length ≤ 256:=by rw [hQ,protP_eq,List.length_map];exact hl
      have HQEQ:=hid hQ
      clear hQ
      have HF:=hid hfin;clear hfin
      have HQP:=hid hqp;clear hqp
      have HQO:=hid hqo;clear hqo
      have hrl:=(regs_all HQP.out (by omega)).2.2.2
      obtain ⟨rl,hrl2⟩:∃ rl,rl = (regs Q).length:=⟨_,rfl⟩
      rw [← hrl2] at hrl
      have hrlI:(rl:Int) ≤ 256:=by omega
      have HRL:=hid hrl2;clear hrl2 hrl
      go_wp2_with fail
      refine (regions_any HF.out HQP.out (by omega)).mono ?_
      rintro e w5 ⟨v5,rfl,r5,k5⟩
      obtain ⟨A5,cap5,hv5⟩:=r5.shape
      rw [← HRL.out] at hv5
      subst hv5
      have HBL5:=hid ((K9.out.trans HBL.out).trans k5)
      have HF5:=hid (HF.out.bl k5);clear k5 r5
      obtain ⟨AS2,capS2,e0,e1,_⟩:=(HH.out.bl HBL5.out).cells
      have f0:w5.frozen? ⟨sb,0,none⟩ = false:=by
        obtain ⟨vz,hz,_⟩:=HH.out.bl HBL5.out
        simp [World.frozen?,hz]
      go_wp2_with fail
      go_ret
      exact ⟨rfl,by rw [← HQEQ.out];exact (HH.out.bl HBL5.out).setFrom HF5.out (K9.out.size),by rw [← HQEQ.out];exact HQO.out,(Fr.of_bl HBL5.out).trans (Fr.set (by exact rfl) _)⟩
section
variable {S:Nat → Prop} {mo b0 b1:Int} {w w':World} {rb:Nat} {P P':List Pg} {M:Nat → Int}
theorem RP.stay (h:RP S w rb P M mo b0 b1) (hf:Fr (only rb) w w') {x:Pg} (hx:x ∈ P) {M':Nat → Int} (hM:pageOf M' x.no.toNat = pageOf M x.no.toNat):S x.b∧w'.heap[x.b]? = some (byteRow M' x.no):=by
  obtain ⟨h4,h5⟩:=h.pages x hx
  refine ⟨h4,?_⟩
  rw [hf.at_ h5 (fun e=>by
    obtain ⟨v0,h7,_⟩:=h.sp
    rw [show x.b = rb from e,h7] at h5
    exact absurd (cells_ty h5) (by decide))]
  unfold byteRow
  rw [hM]
theorem RP.cut (h:RP S w rb P M mo b0 b1) (hS:∀ b,w.heap.size ≤ b → S b) {s t:Nat} (hs:s % 4096 = 0) (ht:t % 4096 = 0) (hst:s < t)
    (hsp:SpaceFrom w.heap.size mo b0 b1 w' rb (outP P s t)) (hf:Fr (only rb) w w'):RP S w' rb (outP P s t) (wiped M s t) mo b0 b1:=by
  obtain ⟨v,h1,h2⟩:=hsp
  refine ⟨⟨v,h1,h2.base_ (fun g hg=>Nat.zero_le _),fun g hg=>hS g (h2.lt g hg).1⟩,h.own,outP_pgs h.pgs,fun x hx=>h.pr x (outP_mem.1 hx).1,by have:=outP_len P s t;have:=h.len;omega,h.mo_,fun x=>?_,fun x hx=>?_,h.apart.sublist List.filter_sublist,fun a ha=>?_⟩
  · simp only [wiped];split
    · omega
    · exact h.by_ x
  · obtain ⟨hx1,hx2⟩:=outP_mem.1 hx
    have h6:=h.pgs.2 x hx1
    exact h.stay hf hx1 (pageOf_wiped_out (by omega))
  · simp only [wiped]
    split
    · rfl
    · exact h.out a fun q hq=>ha q ((outP_on (by omega) (by omega) (by omega)).2 ⟨by omega,hq⟩)
theorem RP.prot (h:RP S w rb P M mo b0 b1) (hS:∀ b,w.heap.size ≤ b → S b) {s t:Nat} {p:Int} (hp:0 ≤ p∧p ≤ 7)
    (hsp:SpaceFrom w.heap.size mo b0 b1 w' rb (protP P s t p)) (hf:Fr (only rb) w w'):RP S w' rb (protP P s t p) M mo b0 b1:=by
  obtain ⟨v,h1,h2⟩:=hsp
  have hmem:∀ x,x ∈ protP P s t p → ∃ y,y ∈ P∧y.no = x.no∧y.b = x.b∧(x.p = p ∨ x.p = y.p):=fun x hx=>by
    rw [protP_eq] at hx
    obtain ⟨y,hy,rfl⟩:=List.mem_map.1 hx
    refine ⟨y,hy,?_⟩
    unfold pfP
    split
    · exact ⟨rfl,rfl,.inl rfl⟩
    · exact ⟨rfl,rfl,.inr rfl⟩
  have hon:∀ a q,OnP P a q → ∃ q',OnP (protP P s t p) a q':=fun a q ⟨y,hy,y1,y2,y3⟩=>by
    refine ⟨(pfP s t p y).p,pfP s t p y,by rw [protP_eq];exact List.mem_map_of_mem hy,?_,?_,rfl⟩
    all_goals (unfold pfP;split <;> assumption)
  refine ⟨⟨v,h1,h2.base_ (fun g hg=>Nat.zero_le _),fun g hg=>hS g (h2.lt g hg).1⟩,h.own,protP_pgs h.pgs,fun x hx=>?_,by rw [protP_eq,List.length_map];exact h.len,h.mo_,h.by_,fun x hx=>?_,?_,fun a ha=>h.out a fun q hq=>?_⟩
  · obtain ⟨y,hy,_,_,e | e⟩:=hmem x hx
    · rw [e];exact hp
    · rw [e];exact h.pr y hy
  · obtain ⟨y,hy,e1,e2,_⟩:=hmem x hx
    have:=h.stay hf hy (M':=M) rfl
    rw [e1,e2] at this
    exact this
  · rw [protP_eq]
    refine List.pairwise_map.2 (h.apart.imp fun {x y} hxy=>?_)
    have e:∀ z:Pg,(pfP s t p z).b = z.b:=fun z=>by unfold pfP;split <;> rfl
    rw [e,e];exact hxy
  · obtain ⟨q',h'⟩:=hon a q hq
    exact ha q' h'
theorem rp_unmap (h:RP S w rb P M mo b0 b1) (hS:∀ b,w.heap.size ≤ b → S b) (hl:P.length ≤ 256) (s t:Nat) (hs:Span (s:Int) (t:Int)) :
    Calls Tryz.prog 19 #[addr0 rb,.int .u64 (s:Int),.int .u64 ((t:Int) - (s:Int))] w fun e w'=>e = .returned (.int .i64 0)∧RP S w' rb (outP P s t) (wiped M s t) mo b0 b1∧Fr S w w':=by
  obtain ⟨s1,s2,s3,s4⟩:=id hs
  refine (rfunmap_any h.space h.pgs hl s t (by omega) hs).mono ?_
  rintro e w' ⟨rfl,h1,h2⟩
  exact ⟨rfl,h.cut hS (by omega) (by omega) (by omega) h1 h2,h2.mono fun b _ e=>by rw [show b = rb from e];exact h.own⟩
theorem rp_protect (h:RP S w rb P M mo b0 b1) (hS:∀ b,w.heap.size ≤ b → S b) (hl:P.length ≤ 256) (s t:Nat) (p:Int) (hp:0 ≤ p∧p ≤ 7) (hs:Span (s:Int) (t:Int)) (hm:∀ y,(s:Int) ≤ y → y < t → ∃ q,OnP P y q) :
    Calls Tryz.prog 17 #[addr0 rb,.int .u64 (s:Int),.int .u64 ((t:Int) - (s:Int)),.int .i64 p] w fun e w'=>e = .returned (.int .i64 0)∧RP S w' rb (protP P s t p) M mo b0 b1∧Fr S w w':=by
  refine (rfprotect_ok h.space h.pgs hl s t p (by omega) hs hp.1 hp.2 hm).mono ?_
  rintro e w' ⟨rfl,h1,_,h2⟩
  exact ⟨rfl,h.prot hS hp h1 h2,h2.mono fun b _ e=>by rw [show b = rb from e];exact h.own⟩
theorem rp_protect_no (h:RP S w rb P M mo b0 b1) (hl:P.length ≤ 256) (s t:Nat) (p:Int) (hp:0 ≤ p∧p ≤ 7) (hs:Span (s:Int) (t:Int)) (hm:¬ ∀ y,(s:Int) ≤ y → y < t → ∃ q,OnP P y q) :
    Calls Tryz.prog 17 #[addr0 rb,.int .u64 (s:Int),.int .u64 ((t:Int) - (s:Int)),.int .i64 p] w fun e w'=>e = .returned (.int .i64 12)∧Bl w w':=
  rfprotect_hole h.space h.pgs hl s t p (by omega) hs hp.1 hp.2 hm
theorem rp_map (h:RP S w rb P M mo b0 b1) (hS:∀ b,w.heap.size ≤ b → S b) (s t:Nat) (p:Int) (hp:0 ≤ p∧p ≤ 7) (hs:Span (s:Int) (t:Int)) :
    Calls Tryz.prog 20 #[addr0 rb,.int .u64 (s:Int),.int .u64 ((t:Int) - (s:Int)),.int .i64 p,.bool true] w fun e w'=>∃ r x,e = .returned (.tuple #[.int .u64 x,.int .i64 r])∧RLayIs S w rb P M mo b0 b1 s t p (.returned (.int .i64 r)) w':=by
  have cw:=fun W=>rfwhole_any s t W (by omega) hs
  have cl:=rp_lay h hS s t p hp hs
  obtain ⟨s1,s2,s3,s4⟩:=hs
  have CW:=hid cw;clear cw
  have CL:=hid cl;clear cl h hS
  obtain ⟨Z,hZ⟩:∃ Z:Int,Z = s:=⟨_,rfl⟩
  obtain ⟨Y,hY⟩:∃ Y:Int,Y = t:=⟨_,rfl⟩
  simp only [← hZ,← hY] at CW CL s1 s2 s3 s4 ⊢
  have hd1:0 < Y - Z:=by omega
  have hd2:Y - Z ≤ 274877906944:=by omega
  have hz0:0 ≤ Z:=by omega
  have t1':(Z % 4096 != 0) = false:=by simp;omega
  clear hZ hY
  obtain ⟨d,hd⟩:∃ d,d = Y - Z:=⟨_,rfl⟩
  rw [← hd] at CW hd1 hd2 ⊢
  have t2:(d == 0) = false:=by simp;omega
  have t3:decide (274877906944 < d) = false:=by simp;omega
  obtain ⟨p0,p1⟩:=hp
  have t4:decide (p < 0) = false:=by simp;omega
  have t5:decide (7 < p) = false:=by simp;omega
  clear hd s1 s2 s3 s4
  unfold addr0 at *
  go_enter Tryz.func20,Tryz.ntmps20
  go_wp2_with fail
  with_reducible refine (CW.out _).mono ?_
  rintro e w' ⟨rfl,rfl⟩
  go_wp2_with fail
  with_reducible refine CL.out.mono ?_
  rintro e w1 ⟨r,rfl,hr⟩
  have HR:=hid hr;clear hr
  by_cases h0:r = 0
  · subst h0
    go_wp2_with fail
    go_ret2
    refine ⟨0,Z,rfl,0,rfl,?_⟩
    have hh:=HR.out
    simpa using hh
  · have t6:(r != 0) = true:=by simp [h0]
    go_wp2_with fail
    go_ret2
    exact ⟨r,0,rfl,r,rfl,HR.out⟩
end
end Go.Proofs.YtbngjbmfkekdnaaGreatDoor

namespace Go.Proofs.YtbngjbmfkekdnaaGreatDoor
open Go.RowKit
set_option maxRecDepth 100000
def LayAny (T:Nat → Prop) (w:World) (sb n:Nat) (L:List Rg) (M st:Nat → Int) (mo ba en:Int) (a b:Nat) (p:Int) (r:Int) (w':World):Prop:=
  (r = 0∧Span (a:Int) (b:Int)∧0 ≤ p∧p ≤ 7∧(layL L a b [⟨a,b,p⟩]).length ≤ 256∧tot (layL L a b [⟨a,b,p⟩]) ≤ mo * 4096∧ClearPost T w sb n (layL L a b [⟨a,b,p⟩]) M st mo ba en a b w') ∨
  (r = 22∧¬ (Span (a:Int) (b:Int)∧0 ≤ p∧p ≤ 7)∧Bl w w') ∨
  (r = 12∧Span (a:Int) (b:Int)∧(256 < (layL L a b [⟨a,b,p⟩]).length ∨ mo * 4096 < tot (layL L a b [⟨a,b,p⟩]))∧Bl w w')
theorem mlay_any {T:Nat → Prop} {w:World} {sb n:Nat} {L:List Rg} {M st:Nat → Int} {mo ba en:Int} (h:MS T w sb n L M st mo ba en) (a b:Nat) (p:Int) (ha:a < 2 ^ 64) (hb:b < 2 ^ 64) (hn:n < 80000000) (hT:∀ b,w.heap.size ≤ b → T b) :
    Calls Tryz.prog 28 #[addr0 sb,.int .u64 (a:Int),.int .u64 (b:Int),.int .i64 p] w fun e w'=>∃ r,e = .returned (.int .i64 r)∧LayAny T w sb n L M st mo ba en a b p r w':=by
  by_cases hs:Span (a:Int) (b:Int)∧0 ≤ p∧p ≤ 7
  · obtain ⟨hs,hp0,hp1⟩:=hs
    rcases Nat.lt_or_ge 256 (layL L a b [⟨a,b,p⟩]).length with hc | hc
    · refine (mlay_many h a b p hs hp0 hp1 hc).mono ?_
      rintro e w' ⟨rfl,k⟩
      exact ⟨12,rfl,.inr (.inr ⟨rfl,hs,.inl hc,k⟩)⟩
    · rcases Int.lt_or_le (mo * 4096) (tot (layL L a b [⟨a,b,p⟩])) with ht | ht
      · refine (mlay_full h a b p hs hp0 hp1 hc ht).mono ?_
        rintro e w' ⟨rfl,k⟩
        exact ⟨12,rfl,.inr (.inr ⟨rfl,hs,.inr ht,k⟩)⟩
      · refine (mlay_ok h a b p hs hp0 hp1 hc ht hn hT).mono ?_
        rintro e w' ⟨rfl,k⟩
        exact ⟨0,rfl,.inl ⟨rfl,hs,hp0,hp1,hc,ht,k⟩⟩
  · refine (mlay_no h a b p (by omega) (by omega) (by omega) (by omega) hs).mono ?_
    rintro e w' ⟨rfl,k⟩
    exact ⟨22,rfl,.inr (.inl ⟨rfl,hs,k⟩)⟩
def MapPost (T:Nat → Prop) (w:World) (sb n:Nat) (L:List Rg) (M st:Nat → Int) (mo ba en:Int) (a b:Nat) (p:Int) (e:Ending) (w':World):Prop:=
  ∃ r,e = .returned (.tuple #[.int .u64 (if r = 0 then (a:Int) else 0),.int .i64 r])∧LayAny T w sb n L M st mo ba en a b p r w'
theorem mmap_fixed {T:Nat → Prop} {w:World} {sb n:Nat} {L:List Rg} {M st:Nat → Int} {mo ba en:Int} (h:MS T w sb n L M st mo ba en) (a:Nat) (size p:Int) (ha:a < 2 ^ 64) (h1:0 ≤ size) (hv:(a:Int) % 4096 = 0∧size ≠ 0∧size ≤ 274877906944∧0 ≤ p∧p ≤ 7) (hn:n < 80000000) (hT:∀ b,w.heap.size ≤ b → T b) (b:Nat) (hb:(b:Int) = IntKind.u64.wrap (a + (size + 4095) / 4096 * 4096)) :
    Calls Tryz.prog 9 #[addr0 sb,.int .u64 (a:Int),.int .u64 size,.int .i64 p,.bool true] w (MapPost T w sb n L M st mo ba en a b p):=by
  obtain ⟨a1,a2,a3,a4,a5⟩:=hv
  have t1:((a:Int) % 4096 != 0) = false:=by simp [a1]
  have t2:(size == 0) = false:=by simp [a2]
  have t3:decide (274877906944 < size) = false:=by simp;omega
  have cp:=fun W=>misProt_yes p W a4 a5
  have cu:=fun W=>mup_any size W
  rw [upW_in h1 a3] at cu
  have cl:=mlay_any h a b p ha (by have:=wrap_in (a + (size + 4095) / 4096 * 4096);omega) hn hT
  generalize (size + 4095) / 4096 * 4096 = sz at *
  rw [hb] at cl
  have CP:=hid cp;clear cp
  have CU:=hid cu;clear cu
  have CL:=hid cl;clear cl a1 a2 h hb
  unfold addr0 at *
  have hx0:(0:Int) ≤ (a:Int):=by omega
  have hx1:(a:Int) ≤ 18446744073709551615:=by omega
  go_enter Tryz.func9,Tryz.ntmps9
  go_wp2_with fail
  refine (CP.out _).mono ?_
  rintro e w' ⟨rfl,rfl⟩
  go_wp2_with fail
  refine (CU.out _).mono ?_
  rintro e w' ⟨rfl,rfl⟩
  go_wp2_with fail
  refine CL.out.mono ?_
  rintro e w' ⟨r,rfl,hl⟩
  have HL:=hid hl;clear hl
  by_cases hr:r = 0
  · subst hr
    go_wp2_with fail
    go_ret2
    exact ⟨0,by rw [if_pos rfl];rfl,HL.out⟩
  · have t5:(r != 0) = true:=by simp [hr]
    have HR:=hid hr;clear hr
    go_wp2_with fail
    go_ret2
    exact ⟨r,by rw [if_neg HR.out];rfl,HL.out⟩
end Go.Proofs.YtbngjbmfkekdnaaGreatDoor

namespace Go.Proofs.YtbngjbmfkekdnaaGreatDoor
open Go.RowKit
set_option maxRecDepth 100000
def from_ (lo:Nat):Nat → Prop:=fun b=>lo ≤ b
theorem Fr.from_bl {w w1 w2:World} (k:Bl w w1) (f:Fr (from_ w.heap.size) w1 w2):Bl w w2:=⟨f.os.trans k.os,f.tape.trans k.tape,f.output.trans k.output,Nat.le_trans k.size f.size,fun b hb=>(f.block b (Nat.lt_of_lt_of_le hb k.size) (fun e=>by have:w.heap.size ≤ b:=e;omega)).trans (k.block b hb)⟩
theorem mmap_new {T:Nat → Prop} {w:World} {sb n:Nat} {M st:Nat → Int} {mo ba en:Int} (h:MS T w sb n [] M st mo ba en) (a b:Nat) (size p:Int) (h1:0 < size) (h2:size ≤ 274877906944) (hp0:0 ≤ p) (hp1:p ≤ 7) (hb:(b:Int) = a + (size + 4095) / 4096 * 4096) (hs:Span (a:Int) (b:Int)) (hm:(b:Int) - a ≤ mo * 4096) (hn:n < 80000000) (hT:∀ b,w.heap.size ≤ b → T b) :
    Calls Tryz.prog 9 #[addr0 sb,.int .u64 (a:Int),.int .u64 size,.int .i64 p,.bool true] w fun e w'=>e = .returned (.tuple #[.int .u64 (a:Int),.int .i64 0])∧ClearPost T w sb n [⟨a,b,p⟩] M st mo ba en a b w':=by
  have hs4:=hs.2.2.2
  refine (mmap_fixed h a size p (by have:=hs.2.2.1;omega) (by omega) ⟨hs.1,by omega,h2,hp0,hp1⟩ hn hT b (by rw [IntWalk.u64_in _ (by omega)];exact hb)).mono ?_
  rintro e w' ⟨r,rfl,hl⟩
  rw [LayAny,layL_new] at hl
  rcases hl with ⟨rfl,_,_,_,_,_,hc⟩ | ⟨_,hx,_⟩ | ⟨_,_,hx,_⟩
  · exact ⟨by rw [if_pos rfl],hc⟩
  · exact absurd ⟨hs,hp0,hp1⟩ hx
  · rcases hx with hx | hx
    · simp at hx
    · simp only [tot] at hx;omega
end Go.Proofs.YtbngjbmfkekdnaaGreatDoor

namespace Go.Proofs.YtbngjbmfkekdnaaGreatDoor
open Go.RowKit
set_option maxRecDepth 100000
theorem stampAll_any {Y:Rest} {S:Nat → Prop} {w:World} {sb n k:Nat} {f:Nat → Option Nat} {M st:Nat → Int} (h:StoreAt Y S w sb n f k M st) (a b:Nat) (hab:a < b) (hc:b ≤ 274877906944) (hn:n < 80000000) (hS:∀ b,w.heap.size ≤ b → S b) :
    Calls Tryz.prog 73 #[.pointer (some ⟨sb,1,none⟩),span (a:Int) (b:Int)] w fun e w'=>e = .returned (.tuple #[])∧(∃ st',StoreAt Y S w' sb (n + 8192) f k M st'∧Rise st st' (fun p=>a / 4096 ≤ p∧p ≤ (b - 1) / 4096))∧Fr S w w':=by
  by_cases hw:(b - 1) / 4096 - a / 4096 < 4096
  · exact stampAll_narrow h a b hab hc hw (by omega) hS
  · refine (stampAll_wide h (a:Int) (b:Int) (by omega) (by omega) (by omega) (by omega) (by omega)).mono ?_
    rintro e w' ⟨rfl,⟨st',h1,h2⟩,h3⟩
    exact ⟨rfl,⟨st',h1.mono (by omega),h2.mono fun _ _=>trivial⟩,h3⟩
theorem touch_any {Y:Rest} {S:Nat → Prop} {w:World} {sb n k:Nat} {f:Nat → Option Nat} {M st:Nat → Int} (h:StoreAt Y S w sb n f k M st) (a b:Nat) (hab:a < b) (hc:b ≤ 274877906944) (hn:n < 80000000) (hS:∀ b,w.heap.size ≤ b → S b) :
    Calls Tryz.prog 40 #[.pointer (some ⟨sb,1,none⟩),.int .u64 (a:Int),.int .u64 (b:Int)] w fun e w'=>e = .returned (.tuple #[])∧(∃ st',StoreAt Y S w' sb (n + 8192) f k M st'∧Rise st st' (fun p=>a / 4096 ≤ p∧p ≤ (b - 1) / 4096))∧Fr S w w':=by
  have cw:=fun W=>pwithin_in (a:Int) (b:Int) W (by omega)
  have ce:=fun W=>empty_any (a:Int) (b:Int) W
  rw [decide_eq_false (by omega)] at ce
  have cst:=fun (W:World) (S':Nat → Prop) (hW:StoreAt Y S' W sb n f k M st) (hS':∀ b,W.heap.size ≤ b → S' b)=>stampAll_any hW a b hab hc hn hS'
  have HH:=hid h;clear h
  have HS:=hid hS;clear hS
  have CW:=hid cw;clear cw
  have CE:=hid ce;clear ce
  have CST:=hid cst;clear cst
  generalize (a:Int) = A at *
  generalize (b:Int) = B at *
  unfold span at *
  go_enter Tryz.func40,Tryz.ntmps40
  go_wp2_with fail
  refine (CW.out _).mono ?_
  rintro e w1 ⟨rfl,bl1⟩
  have h1:StoreAt Y (less S w1.heap.size) (w1.alloc (box48 A B)) sb n f k M st:=(HH.out.bl bl1).less _
  have hS1:∀ b,w1.heap.size ≤ b → S b:=fun b hb=>HS.out b (Nat.le_trans bl1.size hb)
  have fr1:Fr (less S w1.heap.size) (w1.alloc (box48 A B)) (w1.alloc (box48 A B)):=Fr.refl _ _
  have FR1:=hid fr1;clear fr1
  have H1:=hid h1;clear h1
  have HS1:=hid hS1;clear hS1
  have BL1:=hid bl1;clear bl1
  go_wp2_with fail
  refine (CE.out _).mono ?_
  rintro e w2 ⟨rfl,bl2⟩
  have fr2:=FR1.out.trans (Fr.of_bl bl2)
  have h2:=H1.out.bl bl2
  obtain ⟨c0,c1⟩:=two_cells (box_at fr2)
  have FR2:=hid fr2;clear fr2 FR1 bl2
  have H2:=hid h2;clear h2 H1
  go_wp2_with fail
  refine (CST.out _ _ H2.out (less_new HS1.out FR2.out.size)).mono ?_
  rintro e w3 ⟨rfl,⟨st',h3,r3⟩,fr3⟩
  have FR3:=hid (FR2.out.trans fr3)
  have H3:=hid (h3.among (T:=S) (fun _ _ e=>e.1))
  have R3:=hid r3
  clear c0 c1 h3 r3 fr3
  go_wp2_with fail
  go_end0
  exact ⟨rfl,⟨st',H3.out,R3.out⟩,(Fr.of_bl BL1.out).trans FR3.out.unless⟩
end Go.Proofs.YtbngjbmfkekdnaaGreatDoor

namespace Go.Proofs.YtbngjbmfkekdnaaGreatDoor
open Go.RowKit
set_option maxRecDepth 100000
theorem rest_any (a:Int) (w:World) (h0:0 ≤ a):Calls Tryz.prog 31 #[.int .u64 a] w fun e w'=>e = .returned (.int .i64 (4096 - a % 4096))∧w = w':=by
  go_enter Tryz.func31,Tryz.ntmps31
  go_wp2
  go_ret
  exact ⟨rfl,rfl⟩
theorem page_in {L:List Rg} (h:Rs L) {r:Rg} (hr:r ∈ L) {a d:Nat} (h1:r.s ≤ a) (h2:(a:Int) < r.e) (hd:d ≤ 4096 - a % 4096):(a:Int) + d ≤ r.e:=by
  have:=h.al r hr
  have:=h.nm.so.2 r hr
  omega
structure PR (T:Nat → Prop) (w:World) (sb n0:Nat) (L:List Rg) (P:Nat → (Nat → Int) → (Nat → Int) → Prop) (mo ba en:Int) (xs:List Int) (t:Nat) (wr:World) (A:Option Addr) (cap:Nat):Prop where
  le:t ≤ xs.length
  cap_:xs.length - t ≤ cap
  rd:Rd wr A (xs.drop t)
  out:t < xs.length → ∀ ad,A = some ad → ¬ T ad.block
  ms:∃ M st,MS T wr sb (n0 + 6 * t) L M st mo ba en∧P t M st
  fr:Fr T w wr
def PutStep (L:List Rg) (a:Nat) (xs:List Int) (P:Nat → (Nat → Int) → (Nat → Int) → Prop):Prop:=∀ t M st (c d:Nat),P t M st → t < xs.length → c = (a + t) % 18446744073709551616 → d = min (xs.length - t) (4096 - c % 4096) →
  ((∃ q,In L c q) → ∀ st',Rise st st' (fun p=>∃ x,c ≤ x∧x < c + d∧p = x / 4096) → P (t + d) (lay M c ((xs.drop t).take d)) st')∧((∀ q,¬ In L c q) → P (t + d) M st)
theorem getD_drop_take {xs:List Int} (h:∀ k,0 ≤ xs.getD k 0∧xs.getD k 0 ≤ 255) (t d:Nat):∀ k,0 ≤ ((xs.drop t).take d).getD k 0∧((xs.drop t).take d).getD k 0 ≤ 255:=fun k=>by
  rw [List.getD_eq_getElem?_getD,List.getElem?_take]
  split
  · rw [List.getElem?_drop]
    have:=h (t + k)
    rwa [List.getD_eq_getElem?_getD] at this
  · simp
theorem PR.step {T:Nat → Prop} {w:World} {sb n0:Nat} {L:List Rg} {P:Nat → (Nat → Int) → (Nat → Int) → Prop} {mo ba en:Int} {xs:List Int} {t d:Nat} {wr w3:World} {B:Option Addr} {cp:Nat} (h:PR T w sb n0 L P mo ba en xs t wr B cp) (hd:d ≤ xs.length - t) (hd0:0 < d) {M st:Nat → Int} (hm:MS T w3 sb (n0 + 6 * (t + d)) L M st mo ba en) (hp:P (t + d) M st) (fr:Fr T wr w3) :
    PR T w sb n0 L P mo ba en xs (t + d) w3 (if cp = d then B else B.map (·.add d)) (cp - d):=by
  have hcap:=h.cap_
  have hle:=h.le
  refine ⟨by omega,by omega,?_,?_,⟨M,st,hm,hp⟩,h.fr.trans fr⟩
  · have h1:=(h.rd.fr fr (fun h0=>h.out (by omega))).drop d cp (by rw [List.length_drop];omega) (by rw [List.length_drop];omega)
    rw [List.drop_drop] at h1
    exact h1
  · intro _ ad had
    split at had
    · exact h.out (by omega) ad had
    · rcases B with _ | a0
      · cases had
      · simp only [Option.map_some,Option.some.injEq] at had
        subst had
        rw [add_block]
        exact h.out (by omega) a0 rfl
theorem mod_step (a t c d:Nat) (h:c = (a + t) % 18446744073709551616):IntKind.u64.wrap ((c:Int) + (d:Int)) = (((a + (t + d)) % 18446744073709551616:Nat):Int):=by
  rw [IntKind.wrap_u64];omega
theorem mput_any {T:Nat → Prop} {w:World} {sb n0:Nat} {L:List Rg} {M st:Nat → Int} {mo ba en:Int} (h:MS T w sb n0 L M st mo ba en) (a:Nat) (A:Option Addr) (len cap:Nat) (xs:List Int) (hr:Rd w A xs) (hl:xs.length = len) (hlc:len ≤ cap) (hb:∀ k,0 ≤ xs.getD k 0∧xs.getD k 0 ≤ 255)
    (hA:0 < len → ∀ ad,A = some ad → ¬ T ad.block) (ha:a < 2 ^ 64) (hlen:len ≤ 100000) (hn:n0 < 10000000) (hT:∀ b,w.heap.size ≤ b → T b) (P:Nat → (Nat → Int) → (Nat → Int) → Prop) (hP0:P 0 M st) (hP:PutStep L a xs P) :
    Calls Tryz.prog 11 #[addr0 sb,.int .u64 (a:Int),.slice A len cap] w fun e w'=>e = .returned (.tuple #[])∧∃ M' st',MS T w' sb (n0 + 6 * len) L M' st' mo ba en∧P len M' st'∧Fr T w w':=by
  have hpr:PR T w sb n0 L P mo ba en xs 0 w A cap:=⟨Nat.zero_le _,by omega,hr,fun h0=>hA (by omega),⟨M,st,h,hP0⟩,Fr.refl _ _⟩
  have HPR:=hid hpr;clear hpr h hr hA hP0
  have HL:=hid hl;clear hl
  have HB:=hid hb;clear hb
  have HT:=hid hT;clear hT
  have HP:=hid hP;clear hP
  have hlI:(len:Int) ≤ 100000:=by omega
  unfold addr0
  go_enter Tryz.func11,Tryz.ntmps11
  go_wp2_with fail
  go_loopw [1,2,6,7,8] (fun v1 v2 _ _ _ wr=>∃ (t cp:Nat) (B:Option Addr),v1 = .int .u64 (((a + t) % 18446744073709551616:Nat):Int)∧v2 = .slice B (len - t) cp∧PR T w sb n0 L P mo ba en xs t wr B cp) (fun _ v2 _ _ _ _=>lenV v2)
  case atStart=>exact ⟨0,cap,A,by congr 2;omega,rfl,HPR.out⟩
  case round =>
    obtain ⟨t,cp,B,rfl,rfl,hpr⟩:=hrel
    clear HPR
    have htl:=hpr.le
    rw [HL.out] at htl
    by_cases hlt:t < len
    · obtain ⟨c,hc⟩:∃ c,c = (a + t) % 18446744073709551616:=⟨_,rfl⟩
      rw [← hc]
      obtain ⟨d,hd⟩:∃ d,d = min (len - t) (4096 - c % 4096):=⟨_,rfl⟩
      have hd0:0 < d:=by omega
      have hd1:d ≤ len - t:=by omega
      have hd2:d ≤ 4096 - c % 4096:=by omega
      have hc0:(c:Int) ≤ 18446744073709551615:=by omega
      have hcp:=hpr.cap_
      rw [HL.out] at hcp
      have hmn:∀ W',(Builtin.min_ #[3,3] 3 #[.int .i64 ((len - t:Nat):Int),.int .i64 (4096 - (c:Int) % 4096)]).run Tryz.prog W' = .ok (.int .i64 (d:Int)) W':=by
        intro W'
        rw [min_run]
        congr 2
        split <;> omega
      obtain ⟨M1,st1,hms,hp1⟩:=hpr.ms
      have hstep:=HP.out t M1 st1 c d hp1 (by rw [HL.out];exact hlt) hc (by rw [HL.out];exact hd)
      obtain ⟨X,hX⟩:=hms.list
      have cat:=at_any hX hms.so (c:Int) (by have:=hms.few;omega)
      have CAT:=hid cat;clear cat hX
      have CR:=hid (fun W=>rest_any (c:Int) W (by omega))
      have HPRR:=hid hpr;clear hpr
      have HMS:=hid hms;clear hms
      have HST:=hid hstep;clear hstep hp1
      have HC:=hid hc;clear hc
      have HD:=hid hd;clear hd
      have hrlI:(0:Int) < ((len - t:Nat):Int):=by omega
      have hd0I:(0:Int) < (d:Int):=by omega
      have hdI:(d:Int) ≤ ((len - t:Nat):Int):=by omega
      have hdcI:(d:Int) ≤ (cp:Int):=by omega
      unfold addr0 at *
      go_wp2_with fail
      refine (CR.out _).mono ?_
      rintro e w' ⟨rfl,rfl⟩
      go_wp2_with fail
      refine CAT.out.mono ?_
      rintro e w1 ⟨r,ok,rfl,hok,k1⟩
      clear CAT CR hmn
      have K1:=hid (k1.alloc (.cells #[.int .u64 r.s,.int .u64 r.e,.int .i64 r.p] 79))
      unfold rgV
      rcases hok with ⟨rfl,m1,m2,m3⟩ | ⟨rfl,rfl,m1⟩
      · have hin:∃ q,In L c q:=⟨r.p,r,m1,m2,m3,rfl⟩
        have htop:=page_in HMS.out.rs m1 m2 m3 hd2
        have hto2:=HMS.out.so.2 r m1
        have HIN:=hid hin
        have HTOP:Hid (c + d ≤ 274877906944):=hid (by omega)
        clear m1 m2 m3 hin htop hto2 k1
        obtain ⟨rs_,re_,rp_⟩:=r
        simp only at K1 ⊢
        have hs2:=slice29to B (len - t) cp d (by omega)
        go_wp2_with fail
        generalize w1.alloc (.cells #[.int .u64 rs_,.int .u64 re_,.int .i64 rp_] 79) = W at *
        go_region_with (go_at_call 33;have hmW:=HMS.out.bl K1.out;refine (mwrite_any (hmW.bl (Bl.refl W).drew) c B d cp ((xs.drop t).take d) ((HPRR.out.rd.fr (Fr.of_bl (S:=T) K1.out.drew) (fun _=>HPRR.out.out (by rw [HL.out];exact hlt))).take d) (by rw [List.length_take,List.length_drop,HL.out];omega) (by omega) (getD_drop_take HB.out t d) (fun _=>HPRR.out.out (by rw [HL.out];exact hlt)) HTOP.out (by omega) (by omega) (fun b hb=>HT.out b (Nat.le_trans HPRR.out.fr.size (Nat.le_trans K1.out.size hb)))).mono ?_;rintro e w3 ⟨rfl,st3,m3,r3,f3⟩)
        all_goals (
          have hpg:pagesOf c d ≤ 2 * d:=by unfold pagesOf;split <;> omega
          have hpr2:=HPRR.out.step (by rw [HL.out];exact hd1) hd0 (m3.mono (by omega)) (HST.out.1 HIN.out st3 r3) ((Fr.of_bl (K1.out.drew)).trans f3)
          have HPR2:=hid hpr2
          clear hpr2 m3 r3 f3 hs2 hpg HMS HST K1 HPRR
          go_wp2_with fail
          refine ⟨⟨t + d,cp - d,_,by rw [mod_step a t c d HC.out],by congr 1;omega,HPR2.out⟩,by simp only [lenV];omega⟩)
      · have HNO:=hid m1;clear m1 k1
        simp only at K1 ⊢
        have hpr2:=HPRR.out.step (by rw [HL.out];exact hd1) hd0 ((HMS.out.bl K1.out).mono (by omega)) (HST.out.2 HNO.out) (Fr.of_bl K1.out)
        have HPR2:=hid hpr2
        clear hpr2 HMS HST HPRR
        go_wp2_with fail
        refine ⟨⟨t + d,cp - d,_,by rw [mod_step a t c d HC.out],by congr 1;omega,HPR2.out⟩,by simp only [lenV];omega⟩
    · obtain rfl:t = len:=by omega
      rw [show t - t = 0 by omega]
      have HPRR:=hid hpr;clear hpr hlt
      go_wp2_with fail
      go_end0
      obtain ⟨M1,st1,m1,p1⟩:=HPRR.out.ms
      exact ⟨rfl,M1,st1,m1,p1,HPRR.out.fr⟩
end Go.Proofs.YtbngjbmfkekdnaaGreatDoor
