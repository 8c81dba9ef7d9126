/-
  Regions as a list: in order, apart, joined; which places they have; what is laid over a span. Plain mathematics.
  Rows of structs of three cells in memory; a list of regions, a space of pages; what a call leaves of the memory that was there.
  Slices of bytes as lists of numbers: what a slice reads as, kept while only new memory is made; appending to memory of the call's own. Over any program.
  Parts of regions: within.
-/
import Derived.Test.YtbngjbmfkekdnaaGreatDoorRows
import Derived.WalkKit
import Derived.WalkSpells
import Derived.WalkLawsBesides
import Derived.Lib.Hide
import Derived.Laws.OwnMore
import Derived.Laws.AppendOwnNone
import Derived.Maps.AppendAt
import Derived.Deep.QuietTactic
import Derived.BigQuiet
import Derived.Deep.RegionHeld3
import Derived.Deep.Draws
import Derived.Below
import Derived.Laws.CopyOwn
set_option linter.unusedVariables false
set_option linter.unusedSimpArgs false
set_option maxHeartbeats 16000000
open Go.Lib (hid)
namespace Go.Proofs.YtbngjbmfkekdnaaGreatDoor

structure Rg where
  s:Int
  e:Int
  p:Int

theorem Rg.eq {a b:Rg} (h1:a.s = b.s) (h2:a.e = b.e) (h3:a.p = b.p):a = b:=by
  cases a;cases b;simp_all

def In (L:List Rg) (a p:Int):Prop:=∃ r,r ∈ L∧r.s ≤ a∧a < r.e∧r.p = p

def Nm (lo hi:Int) (L:List Rg):Prop:=
  L.Pairwise (fun r q=>r.e ≤ q.s∧(r.e = q.s → r.p ≠ q.p))∧∀ r,r ∈ L → lo ≤ r.s∧r.s < r.e∧r.e ≤ hi
def So (lo hi:Int) (L:List Rg):Prop:=
  L.Pairwise (fun r q=>r.e ≤ q.s)∧∀ r,r ∈ L → lo ≤ r.s∧r.s < r.e∧r.e ≤ hi
def Al (L:List Rg):Prop:=∀ r,r ∈ L → r.s % 4096 = 0∧r.e % 4096 = 0

theorem Nm.so {lo hi:Int} {L:List Rg} (h:Nm lo hi L):So lo hi L:=⟨h.1.imp fun h=>h.1,h.2⟩
theorem Nm.nil (lo hi:Int):Nm lo hi []:=⟨List.Pairwise.nil,fun r h=>by cases h⟩
theorem So.nil (lo hi:Int):So lo hi []:=⟨List.Pairwise.nil,fun r h=>by cases h⟩
theorem Al.nil:Al []:=fun r h=>by cases h
theorem In_nil (a p:Int):¬ In [] a p:=fun ⟨_,h,_⟩=>by cases h
theorem In_append {A B:List Rg} {a p:Int}:In (A ++ B) a p ↔ In A a p ∨ In B a p:=by
  constructor
  · rintro ⟨r,hr,h⟩
    rcases List.mem_append.1 hr with h1 | h1
    · exact .inl ⟨r,h1,h⟩
    · exact .inr ⟨r,h1,h⟩
  · rintro (⟨r,hr,h⟩ | ⟨r,hr,h⟩)
    · exact ⟨r,List.mem_append_left _ hr,h⟩
    · exact ⟨r,List.mem_append_right _ hr,h⟩
theorem In_one {r:Rg} {a p:Int}:In [r] a p ↔ r.s ≤ a∧a < r.e∧r.p = p:=by
  constructor
  · rintro ⟨q,hq,h⟩;rw [List.mem_singleton] at hq;subst hq;exact h
  · intro h;exact ⟨r,List.mem_singleton_self _,h⟩
theorem In_cons {r:Rg} {L:List Rg} {a p:Int}:In (r :: L) a p ↔ (r.s ≤ a∧a < r.e∧r.p = p) ∨ In L a p:=by
  rw [show r :: L = [r] ++ L from rfl,In_append,In_one]
theorem Nm.mono {lo hi lo' hi':Int} {L:List Rg} (h:Nm lo hi L) (h1:lo' ≤ lo) (h2:hi ≤ hi'):Nm lo' hi' L:=
  ⟨h.1,fun r hr=>by have:=h.2 r hr;omega⟩
theorem So.mono {lo hi lo' hi':Int} {L:List Rg} (h:So lo hi L) (h1:lo' ≤ lo) (h2:hi ≤ hi'):So lo' hi' L:=
  ⟨h.1,fun r hr=>by have:=h.2 r hr;omega⟩
theorem Nm.tail {lo hi:Int} {r:Rg} {L:List Rg} (h:Nm lo hi (r :: L)):Nm r.e hi L:=by
  obtain ⟨h1,h2⟩:=h
  rw [List.pairwise_cons] at h1
  refine ⟨h1.2,fun q hq=>?_⟩
  have:=h1.1 q hq
  have h3:=h2 q (List.mem_cons_of_mem _ hq)
  omega
theorem So.tail {lo hi:Int} {r:Rg} {L:List Rg} (h:So lo hi (r :: L)):So r.e hi L:=by
  obtain ⟨h1,h2⟩:=h
  rw [List.pairwise_cons] at h1
  refine ⟨h1.2,fun q hq=>?_⟩
  have:=h1.1 q hq
  have h3:=h2 q (List.mem_cons_of_mem _ hq)
  omega
theorem So.range {lo hi:Int} {L:List Rg} (h:So lo hi L) {a p:Int} (hi':In L a p):lo ≤ a∧a < hi:=by
  obtain ⟨r,hr,h1,h2,h3⟩:=hi'
  have:=h.2 r hr
  omega
theorem So.one {lo hi:Int} {L:List Rg} (h:So lo hi L) {a p q:Int} (h1:In L a p) (h2:In L a q):p = q:=by
  induction L generalizing lo with
  | nil=>exact absurd h1 (In_nil _ _)
  | cons r L ih =>
    have ht:=h.tail
    rcases In_cons.1 h1 with a1 | a1 <;> rcases In_cons.1 h2 with a2 | a2
    · omega
    · have:=ht.range a2;omega
    · have:=ht.range a1;omega
    · exact ih ht a1 a2

theorem unique {lo hi lo' hi':Int} {L M:List Rg} (h:Nm lo hi L) (k:Nm lo' hi' M) (e:∀ a p,In L a p ↔ In M a p):L = M:=by
  induction L generalizing lo lo' M with
  | nil =>
    cases M with
    | nil=>rfl
    | cons q M =>
      have h1:=k.2 q (List.mem_cons_self ..)
      exact absurd ((e q.s q.p).2 (In_cons.2 (.inl ⟨by omega,by omega,rfl⟩))) (In_nil _ _)
  | cons r L ih =>
    cases M with
    | nil =>
      have h1:=h.2 r (List.mem_cons_self ..)
      exact absurd ((e r.s r.p).1 (In_cons.2 (.inl ⟨by omega,by omega,rfl⟩))) (In_nil _ _)
    | cons q M =>
      have hr:=h.2 r (List.mem_cons_self ..)
      have hq:=k.2 q (List.mem_cons_self ..)
      have htl:=h.tail
      have htm:=k.tail
      have s1:q.s ≤ r.s:=by
        rcases In_cons.1 ((e r.s r.p).1 (In_cons.2 (.inl ⟨by omega,by omega,rfl⟩))) with a1 | a1
        · omega
        · have:=htm.so.range a1;omega
      have s2:r.s ≤ q.s:=by
        rcases In_cons.1 ((e q.s q.p).2 (In_cons.2 (.inl ⟨by omega,by omega,rfl⟩))) with a1 | a1
        · omega
        · have:=htl.so.range a1;omega
      have hs:r.s = q.s:=by omega
      have hp:r.p = q.p:=by
        rcases In_cons.1 ((e r.s r.p).1 (In_cons.2 (.inl ⟨by omega,by omega,rfl⟩))) with a1 | a1
        · omega
        · have:=htm.so.range a1;omega
      have e1:q.e ≤ r.e:=by
        rcases Int.lt_or_le r.e q.e with h1 | h1
        · exfalso
          rcases In_cons.1 ((e r.e q.p).2 (In_cons.2 (.inl ⟨by omega,by omega,rfl⟩))) with a1 | ⟨x,hx,b1,b2,b3⟩
          · omega
          · have:=(List.pairwise_cons.1 h.1).1 x hx
            exact this.2 (by omega) (by omega)
        · exact h1
      have e2:r.e ≤ q.e:=by
        rcases Int.lt_or_le q.e r.e with h1 | h1
        · exfalso
          rcases In_cons.1 ((e q.e r.p).1 (In_cons.2 (.inl ⟨by omega,by omega,rfl⟩))) with a1 | ⟨x,hx,b1,b2,b3⟩
          · omega
          · have:=(List.pairwise_cons.1 k.1).1 x hx
            exact this.2 (by omega) (by omega)
        · exact h1
      have hh:r = q:=Rg.eq hs (by omega) hp
      subst hh
      congr 1
      refine ih htl htm fun a p=>⟨fun hin=>?_,fun hin=>?_⟩
      · have:=htl.so.range hin
        rcases In_cons.1 ((e a p).1 (In_cons.2 (.inr hin))) with a1 | a1
        · omega
        · exact a1
      · have:=htm.so.range hin
        rcases In_cons.1 ((e a p).2 (In_cons.2 (.inr hin))) with a1 | a1
        · omega
        · exact a1

def tot:List Rg → Int
  | []=>0
  | r :: L=>(r.e - r.s) + tot L
theorem tot_append (A B:List Rg):tot (A ++ B) = tot A + tot B:=by
  induction A with
  | nil=>simp [tot]
  | cons r A ih=>simp only [List.cons_append,tot,ih];omega
theorem So.tot_le {lo hi:Int} {L:List Rg} (h:So lo hi L) (hl:lo ≤ hi):0 ≤ tot L∧tot L ≤ hi - lo:=by
  induction L generalizing lo with
  | nil=>simp only [tot];omega
  | cons r L ih =>
    have hr:=h.2 r (List.mem_cons_self ..)
    have:=ih h.tail (by omega)
    simp only [tot];omega
theorem Al.tail {r:Rg} {L:List Rg} (h:Al (r :: L)):Al L:=fun q hq=>h q (List.mem_cons_of_mem _ hq)
theorem len_tot {lo hi:Int} {L:List Rg} (h:So lo hi L) (ha:Al L):(L.length:Int) * 4096 ≤ tot L:=by
  induction L generalizing lo with
  | nil=>simp [tot]
  | cons r L ih =>
    have hr:=h.2 r (List.mem_cons_self ..)
    have hra:=ha r (List.mem_cons_self ..)
    have:=ih h.tail ha.tail
    simp only [tot,List.length_cons];omega
theorem Al.tot {L:List Rg} (ha:Al L):tot L % 4096 = 0:=by
  induction L with
  | nil=>rfl
  | cons r L ih =>
    have hra:=ha r (List.mem_cons_self ..)
    have:=ih ha.tail
    simp only [YtbngjbmfkekdnaaGreatDoor.tot];omega
theorem len_le {lo hi:Int} {L:List Rg} (h:So lo hi L) (ha:Al L) (hl:lo ≤ hi):(L.length:Int) * 4096 ≤ hi - lo:=by
  have h1:=len_tot h ha
  have h2:=h.tot_le hl
  omega

open Classical in
noncomputable def joinOne (L:List Rg) (r:Rg):List Rg:=
  match L.getLast? with
  | some q=>if q.e = r.s∧q.p = r.p then L.dropLast ++ [⟨q.s,r.e,q.p⟩] else L ++ [r]
  | none=>[r]
noncomputable def join (L M:List Rg):List Rg:=M.foldl joinOne L
theorem joinOne_nil (r:Rg):joinOne [] r = [r]:=rfl
theorem joinOne_yes (L:List Rg) (q r:Rg) (h1:q.e = r.s) (h2:q.p = r.p):joinOne (L ++ [q]) r = L ++ [⟨q.s,r.e,q.p⟩]:=by
  simp [joinOne,h1,h2]
theorem joinOne_no (L:List Rg) (q r:Rg) (h:¬ (q.e = r.s∧q.p = r.p)):joinOne (L ++ [q]) r = L ++ [q] ++ [r]:=by
  simp only [joinOne,List.getLast?_concat]
  rw [if_neg h]
theorem last_cases (L:List Rg):L = [] ∨ ∃ A q,L = A ++ [q]:=by
  rcases List.eq_nil_or_concat L with h | ⟨A,q,h⟩
  · exact .inl h
  · exact .inr ⟨A,q,by simpa using h⟩
theorem joinOne_all {lo hi:Int} {L:List Rg} {r:Rg} (h:Nm lo hi L) (h1:lo ≤ r.s) (h2:r.s < r.e) (h3:∀ q,q ∈ L → q.e ≤ r.s) (h4:r.e ≤ hi) :
    Nm lo hi (joinOne L r)∧(∀ q,q ∈ joinOne L r → q.e ≤ r.e)∧(∀ a p,In (joinOne L r) a p ↔ In L a p ∨ In [r] a p)∧tot (joinOne L r) = tot L + (r.e - r.s)∧(Al L → r.s % 4096 = 0 → r.e % 4096 = 0 → Al (joinOne L r))∧(joinOne L r).length ≤ L.length + 1∧joinOne L r ≠ []:=by
  rcases last_cases L with rfl | ⟨A,q,rfl⟩
  · rw [joinOne_nil]
    refine ⟨⟨List.pairwise_singleton _ _,fun q hq=>?_⟩,fun q hq=>?_,fun a p=>?_,by simp [tot],fun _ a1 a2 q hq=>?_,by simp,by simp⟩
    · rw [List.mem_singleton] at hq;subst hq;omega
    · rw [List.mem_singleton] at hq;subst hq;omega
    · simp [In_nil]
    · rw [List.mem_singleton] at hq;subst hq;exact ⟨a1,a2⟩
  · have hq:=h.2 q (by simp)
    have hqr:=h3 q (by simp)
    obtain ⟨p1,p2,p3⟩:=List.pairwise_append.1 h.1
    have hA:∀ x,x ∈ A → x.e ≤ q.s∧(x.e = q.s → x.p ≠ q.p):=fun x hx=>p3 x hx q (by simp)
    by_cases hc:q.e = r.s∧q.p = r.p
    · rw [joinOne_yes A q r hc.1 hc.2]
      refine ⟨⟨List.pairwise_append.2 ⟨p1,List.pairwise_singleton _ _,fun x hx y hy=>?_⟩,fun x hx=>?_⟩,fun x hx=>?_,fun a p=>?_,?_,fun ha a1 a2 x hx=>?_,by simp,by simp⟩
      · rw [List.mem_singleton] at hy;subst hy;exact hA x hx
      · rcases List.mem_append.1 hx with hx | hx
        · have:=h.2 x (List.mem_append_left _ hx);omega
        · rw [List.mem_singleton] at hx;subst hx;simp only;omega
      · rcases List.mem_append.1 hx with hx | hx
        · have:=hA x hx;omega
        · rw [List.mem_singleton] at hx;subst hx;simp only;omega
      · rw [In_append,In_append,In_one,In_one,In_one]
        obtain ⟨c1,c2⟩:=hc
        simp only
        constructor
        · rintro (h1 | ⟨b1,b2,b3⟩)
          · exact .inl (.inl h1)
          · by_cases h5:a < q.e
            · exact .inl (.inr ⟨b1,h5,b3⟩)
            · exact .inr ⟨by omega,b2,by omega⟩
        · rintro ((h1 | ⟨b1,b2,b3⟩) | ⟨b1,b2,b3⟩)
          · exact .inl h1
          · exact .inr ⟨b1,by omega,b3⟩
          · exact .inr ⟨by omega,b2,by omega⟩
      · rw [tot_append,tot_append];simp only [tot];omega
      · rcases List.mem_append.1 hx with hx | hx
        · exact ha x (List.mem_append_left _ hx)
        · rw [List.mem_singleton] at hx;subst hx;exact ⟨(ha q (by simp)).1,a2⟩
    · rw [joinOne_no A q r hc]
      refine ⟨⟨List.pairwise_append.2 ⟨h.1,List.pairwise_singleton _ _,fun x hx y hy=>?_⟩,fun x hx=>?_⟩,fun x hx=>?_,fun a p=>by rw [In_append],?_,fun ha a1 a2 x hx=>?_,by simp,by simp⟩
      · rw [List.mem_singleton] at hy;subst hy
        refine ⟨h3 x hx,fun he hp=>?_⟩
        rcases List.mem_append.1 hx with hx | hx
        · have:=hA x hx;omega
        · rw [List.mem_singleton] at hx;subst hx;exact hc ⟨he,hp⟩
      · rcases List.mem_append.1 hx with hx | hx
        · have:=h.2 x hx;omega
        · rw [List.mem_singleton] at hx;subst hx;omega
      · rcases List.mem_append.1 hx with hx | hx
        · have:=h3 x hx;omega
        · rw [List.mem_singleton] at hx;subst hx;omega
      · rw [tot_append];simp only [tot];omega
      · rcases List.mem_append.1 hx with hx | hx
        · exact ha x hx
        · rw [List.mem_singleton] at hx;subst hx;exact ⟨a1,a2⟩
theorem join_all {lo hi:Int} {L M:List Rg} (h:Nm lo hi L) (k:So lo hi M) (hb:∀ q r,q ∈ L → r ∈ M → q.e ≤ r.s) :
    Nm lo hi (join L M)∧(∀ a p,In (join L M) a p ↔ In L a p ∨ In M a p)∧tot (join L M) = tot L + tot M∧(Al L → Al M → Al (join L M))∧(join L M).length ≤ L.length + M.length∧(L ≠ [] ∨ M ≠ [] → join L M ≠ [])∧(∀ b,(∀ q,q ∈ L → q.e ≤ b) → (∀ q,q ∈ M → q.e ≤ b) → ∀ q,q ∈ join L M → q.e ≤ b):=by
  induction M generalizing L with
  | nil=>exact ⟨h,fun a p=>by simp [join,In_nil],by simp [join,tot],fun a _=>a,by simp [join],fun h=>by simpa [join] using h,fun b h1 _=>h1⟩
  | cons r M ih =>
    have hr:=k.2 r (List.mem_cons_self ..)
    obtain ⟨a1,a2,a3,a4,a5,a6,a7⟩:=joinOne_all h hr.1 hr.2.1 (fun q hq=>hb q r hq (List.mem_cons_self ..)) hr.2.2
    have kt:=k.tail
    obtain ⟨b1,b2,b3,b4,b5,b6,b7⟩:=ih a1 ⟨kt.1,fun q hq=>k.2 q (List.mem_cons_of_mem _ hq)⟩ (fun q x hq hx=>by
      have:=a2 q hq
      have:=kt.2 x hx
      omega)
    refine ⟨b1,fun a p=>?_,?_,fun c1 c2=>?_,?_,fun _=>b6 (.inl a7),fun b c1 c2=>?_⟩
    · show In (join (joinOne L r) M) a p ↔ _
      rw [b2,a3,In_one,In_cons,or_assoc]
    · show tot (join (joinOne L r) M) = _
      rw [b3,a4];simp only [tot];omega
    · have:=c2 r (List.mem_cons_self ..)
      exact b4 (a5 c1 this.1 this.2) c2.tail
    · show (join (joinOne L r) M).length ≤ _
      simp only [List.length_cons];omega
    · refine b7 b (fun q hq=>?_) (fun q hq=>c2 q (List.mem_cons_of_mem _ hq))
      have:=a2 q hq
      have:=c2 r (List.mem_cons_self ..)
      omega

open Classical in
noncomputable def clip (a b:Int) (r:Rg):Option Rg:=if max r.s a < min r.e b then some ⟨max r.s a,min r.e b,r.p⟩ else none
noncomputable def within (L:List Rg) (a b:Int):List Rg:=L.filterMap (clip a b)
theorem clip_some {a b:Int} {r q:Rg} (h:clip a b r = some q):q.s = max r.s a∧q.e = min r.e b∧q.p = r.p∧q.s < q.e:=by
  unfold clip at h
  split at h
  · cases h;exact ⟨rfl,rfl,rfl,by assumption⟩
  · cases h
theorem within_mem {L:List Rg} {a b:Int} {q:Rg}:q ∈ within L a b ↔ ∃ r,r ∈ L∧clip a b r = some q:=by
  simp [within,List.mem_filterMap]
theorem within_so {lo hi a b:Int} {L:List Rg} (h:So lo hi L):So a b (within L a b):=by
  refine ⟨?_,fun q hq=>?_⟩
  · refine List.Pairwise.filterMap (R:=fun r q=>r.e ≤ q.s) (clip a b) (fun r q hrq r' hr' q' hq'=>?_) h.1
    obtain ⟨a1,a2,a3,a4⟩:=clip_some hr'
    obtain ⟨b1,b2,b3,b4⟩:=clip_some hq'
    omega
  · obtain ⟨r,hr,hc⟩:=within_mem.1 hq
    obtain ⟨a1,a2,a3,a4⟩:=clip_some hc
    omega
theorem within_in {a b:Int} {L:List Rg} (x p:Int):In (within L a b) x p ↔ a ≤ x∧x < b∧In L x p:=by
  constructor
  · rintro ⟨q,hq,h1,h2,h3⟩
    obtain ⟨r,hr,hc⟩:=within_mem.1 hq
    obtain ⟨a1,a2,a3,a4⟩:=clip_some hc
    exact ⟨by omega,by omega,r,hr,by omega,by omega,by omega⟩
  · rintro ⟨h1,h2,r,hr,h3,h4,h5⟩
    have hlt:max r.s a < min r.e b:=by omega
    exact ⟨⟨max r.s a,min r.e b,r.p⟩,within_mem.2 ⟨r,hr,by unfold clip;rw [if_pos hlt]⟩,by simp only;omega,by simp only;omega,h5⟩
theorem within_al {a b:Int} {L:List Rg} (h:Al L) (ha:a % 4096 = 0) (hb:b % 4096 = 0):Al (within L a b):=fun q hq=>by
  obtain ⟨r,hr,hc⟩:=within_mem.1 hq
  obtain ⟨a1,a2,a3,a4⟩:=clip_some hc
  have:=h r hr
  omega
theorem within_len (L:List Rg) (a b:Int):(within L a b).length ≤ L.length:=List.length_filterMap_le _ _

noncomputable def layL (L:List Rg) (s e:Int) (M:List Rg):List Rg:=join (join (join [] (within L 0 s)) M) (within L e 274877906944)
theorem layL_all {L M:List Rg} {s e:Int} (h:So 0 274877906944 L) (hs:0 ≤ s) (hse:s < e) (he:e ≤ 274877906944) (hM:So s e M) :
    Nm 0 274877906944 (layL L s e M)∧(∀ a p,In (layL L s e M) a p ↔ In M a p ∨ ((a < s ∨ e ≤ a)∧In L a p))∧(Al L → s % 4096 = 0 → e % 4096 = 0 → Al M → Al (layL L s e M))∧(layL L s e M).length ≤ L.length + M.length + L.length ∧
    (∀ b,e ≤ b → (∀ q,q ∈ L → q.e ≤ b) → ∀ q,q ∈ layL L s e M → q.e ≤ b):=by
  have w1:=within_so (a:=0) (b:=s) h
  have w2:=within_so (a:=e) (b:=274877906944) h
  obtain ⟨a1,a2,a3,a4,a5,a6,a7⟩:=join_all (Nm.nil 0 274877906944) (w1.mono (by omega) (by omega)) (fun q r hq _=>by cases hq)
  have ab:=a7 s (fun q hq=>by cases hq) (fun q hq=>(w1.2 q hq).2.2)
  obtain ⟨b1,b2,b3,b4,b5,b6,b7⟩:=join_all a1 (hM.mono (by omega) (by omega)) (fun q r hq hr=>by
    have:=ab q hq
    have:=hM.2 r hr
    omega)
  have bb:=b7 e (fun q hq=>by have:=ab q hq;omega) (fun q hq=>(hM.2 q hq).2.2)
  obtain ⟨c1,c2,c3,c4,c5,c6,c7⟩:=join_all b1 (w2.mono (by omega) (by omega)) (fun q r hq hr=>by
    have:=bb q hq
    have:=w2.2 r hr
    omega)
  refine ⟨c1,fun a p=>?_,fun ha hs0 he0 hMa=>?_,?_,fun b hb hL=>?_⟩
  · show In (join _ _) a p ↔ _
    rw [c2,b2,a2,within_in,within_in]
    constructor
    · rintro (((h1 | ⟨h1,h2,h3⟩) | h1) | ⟨h1,h2,h3⟩)
      · exact absurd h1 (In_nil _ _)
      · exact .inr ⟨.inl h2,h3⟩
      · exact .inl h1
      · exact .inr ⟨.inr h1,h3⟩
    · rintro (h1 | ⟨h1 | h1,h2⟩)
      · exact .inl (.inr h1)
      · exact .inl (.inl (.inr ⟨(h.range h2).1,h1,h2⟩))
      · exact .inr ⟨h1,(h.range h2).2,h2⟩
  · exact c4 (b4 (a4 Al.nil (within_al ha (by omega) hs0)) hMa) (within_al ha he0 (by omega))
  · show (join _ _).length ≤ _
    have:=within_len L 0 s
    have:=within_len L e 274877906944
    simp only [List.length_nil] at a5
    omega
  · refine c7 b (fun q hq=>by have:=bb q hq;omega) (fun q hq=>?_)
    obtain ⟨r,hr,hc⟩:=within_mem.1 hq
    obtain ⟨d1,d2,d3,d4⟩:=clip_some hc
    have:=hL r hr
    omega
theorem one_so {s e p:Int} (h:s < e):So s e [⟨s,e,p⟩]:=⟨List.pairwise_singleton _ _,fun r hr=>by rw [List.mem_singleton] at hr;subst hr;simp only;omega⟩
theorem one_al {s e p:Int} (h1:s % 4096 = 0) (h2:e % 4096 = 0):Al [⟨s,e,p⟩]:=fun r hr=>by rw [List.mem_singleton] at hr;subst hr;exact ⟨h1,h2⟩
end Go.Proofs.YtbngjbmfkekdnaaGreatDoor

namespace Go.Proofs.YtbngjbmfkekdnaaGreatDoor
open Go.RowKit
set_option maxRecDepth 100000

structure Fr (S:Nat → Prop) (w w':World):Prop where
  os:w'.os = w.os
  tape:w'.tape = w.tape
  output:w'.output = w.output
  size:w.heap.size ≤ w'.heap.size
  block:∀ k,k < w.heap.size → ¬ S k → w'.heap[k]? = w.heap[k]?

abbrev Bl (w w':World):Prop:=Below w.heap.size w w'
theorem Bl.refl (w:World):Bl w w:=Below.refl _ _
theorem Bl.trans {a b c:World} (h:Bl a b) (k:Bl b c):Bl a c:=Below.trans h (Below.mono k h.size)
theorem Bl.alloc {a b:World} (h:Bl a b) (o:Obj):Bl a (b.alloc o):=Below.alloc h h.size o
theorem Bl.new (a:World) (o:Obj):Bl a (a.alloc o):=(Bl.refl a).alloc o
theorem Bl.set {a b:World} (h:Bl a b) {p:Addr} (hp:a.heap.size ≤ p.block) (u:Value):Bl a (b.setCell p u):=Below.setCell h hp u
theorem Bl.drew {a b:World} (h:Bl a b):Bl a b.drew:=Below.drew h
theorem Bl.drewN {a b:World} (h:Bl a b) (n:Nat):Bl a (b.drewN n):=h.trans ⟨rfl,rfl,rfl,Nat.le_refl _,fun _ _=>rfl⟩
theorem Below.at_ {B:Nat} {a b:World} (h:Below B a b) {k:Nat} {o:Obj} (hB:k < B) (hk:a.heap[k]? = some o):b.heap[k]? = some o:=by
  rw [h.block k hB];exact hk
theorem lt_at {w:World} {k:Nat} {o:Obj} (h:w.heap[k]? = some o):k < w.heap.size:=(Array.getElem?_eq_some_iff.1 h).1
theorem Bl.at_ {a b:World} (h:Bl a b) {k:Nat} {o:Obj} (hk:a.heap[k]? = some o):b.heap[k]? = some o:=Below.at_ h (lt_at hk) hk
theorem Bl.cell' {a b:World} (h:Bl a b) {p:Addr} {v:Value} (hp:a.cell? p = some v):b.cell? p = some v:=by rw [Below.cell h (block_lt_of_cell hp)];exact hp

theorem Fr.of_bl {S:Nat → Prop} {a b:World} (h:Bl a b):Fr S a b:=⟨h.os,h.tape,h.output,h.size,fun k hk _=>h.block k hk⟩
theorem Fr.refl (S:Nat → Prop) (w:World):Fr S w w:=Fr.of_bl (Bl.refl w)
theorem Fr.trans {S:Nat → Prop} {a b c:World} (h:Fr S a b) (k:Fr S b c):Fr S a c:=
  ⟨k.os.trans h.os,k.tape.trans h.tape,k.output.trans h.output,Nat.le_trans h.size k.size,
   fun i hi hn=>(k.block i (Nat.lt_of_lt_of_le hi h.size) hn).trans (h.block i hi hn)⟩
theorem Fr.mono {S T:Nat → Prop} {a b:World} (h:Fr S a b) (hs:∀ k,k < a.heap.size → S k → T k):Fr T a b:=
  ⟨h.os,h.tape,h.output,h.size,fun k hk hn=>h.block k hk (fun e=>hn (hs k hk e))⟩
theorem Fr.bl {S:Nat → Prop} {a b:World} (h:Fr S a b) (hs:∀ k,k < a.heap.size → ¬ S k):Bl a b:=⟨h.os,h.tape,h.output,h.size,fun k hk=>h.block k hk (hs k hk)⟩
theorem Fr.set {S:Nat → Prop} {a:World} {p:Addr} (hp:S p.block) (u:Value):Fr S a (a.setCell p u):=
  ⟨rfl,rfl,rfl,by simp [World.setCell],fun k hk hn=>Below.heap_setCell _ _ _ _ (fun e=>hn (e ▸ hp))⟩
theorem Fr.at_ {S:Nat → Prop} {a b:World} (h:Fr S a b) {k:Nat} {o:Obj} (hk:a.heap[k]? = some o) (hn:¬ S k):b.heap[k]? = some o:=by
  rw [h.block k (lt_at hk) hn];exact hk

section
variable {α:Type} {c:α → List Value} {t:TypeId} {w w':World} {base:Nat} {v:Value} {L:List α}
def flat (c:α → List Value) (L:List α):List Value:=L.flatMap c
theorem flat_append (c:α → List Value) (A B:List α):flat c (A ++ B) = flat c A ++ flat c B:=by simp [flat]
theorem flat_length (hc:∀ x,(c x).length = 3) (L:List α):(flat c L).length = L.length * 3:=by
  induction L with
  | nil=>rfl
  | cons x L ih=>simp only [flat,List.flatMap_cons,List.length_append,List.length_cons] at *;rw [hc,ih];omega
theorem flat_get (hc:∀ x,(c x).length = 3) (L:List α) (k j:Nat) (x:α) (hk:L[k]? = some x) (hj:j < 3):(flat c L)[k * 3 + j]? = (c x)[j]?:=by
  induction L generalizing k with
  | nil=>cases hk
  | cons y L ih =>
    have e:flat c (y :: L) = c y ++ flat c L:=by simp [flat]
    rw [e]
    cases k with
    | zero =>
      simp only [List.getElem?_cons_zero,Option.some.injEq] at hk
      subst hk
      rw [List.getElem?_append_left (by rw [hc];omega)]
      congr 1;omega
    | succ k =>
      rw [List.getElem?_cons_succ] at hk
      rw [List.getElem?_append_right (by rw [hc];omega),hc,show (k + 1) * 3 + j - 3 = k * 3 + j by omega]
      exact ih k hk
def RowG (t:TypeId) (c:α → List Value) (w:World) (base:Nat) (v:Value) (L:List α):Prop:=
  w.ownsRow base t 3 v L.length (flat c L)∧(L = [] → v = .slice none 0 0)
theorem RowG.nil:RowG t c w base (.slice none 0 0) []:=⟨⟨rfl,.inl ⟨rfl,rfl⟩⟩,fun _=>rfl⟩
theorem RowG.form (h:RowG t c w base v L) (hL:L ≠ []):∃ g cap cur,v = .slice (some ⟨g,0,none⟩) L.length cap∧base ≤ g∧L.length ≤ cap∧w.heap[g]? = some (.cells cur t (0,0))∧g < w.heap.size:=by
  rcases h.1.2 with ⟨rfl,h0⟩ | ⟨g,cap,cur,rfl,h1,h2,h3,h4,h5,h6⟩
  · exact absurd (List.eq_nil_of_length_eq_zero h0) hL
  · exact ⟨g,cap,cur,rfl,h1,h3,h2,lt_at h2⟩
theorem RowG.shape (h:RowG t c w base v L):∃ A cap,v = .slice A L.length cap:=by
  rcases h.1.2 with ⟨rfl,h0⟩ | ⟨g,cap,cur,rfl,h1,h2,h3,h4,h5,h6⟩
  · exact ⟨none,0,by rw [h0]⟩
  · exact ⟨_,_,rfl⟩
theorem RowG.cell {g cap n:Nat} (h:RowG t c w base (.slice (some ⟨g,0,none⟩) n cap) L) (hc:∀ x,(c x).length = 3) (k j:Nat) (x:α) (hk:L[k]? = some x) (hj:j < 3):w.cell? ⟨g,k * 3 + j,none⟩ = (c x)[j]?:=by
  have hlt:k < L.length:=(List.getElem?_eq_some_iff.1 hk).1
  rcases h.1.2 with ⟨h1,h0⟩ | ⟨g',cap',cur,h1,_⟩
  · cases h1
  · have hn:n = L.length:=by injection h1
    subst hn
    rw [h.1.cellAt (k * 3 + j) (by omega),flat_get hc L k j x hk hj]
theorem RowG.free {g cap n:Nat} (h:RowG t c w base (.slice (some ⟨g,0,none⟩) n cap) L) (j:Nat):w.frozen? ⟨g,j,none⟩ = false:=by
  rcases h.1.2 with ⟨h1,h0⟩ | ⟨g',cap',cur,h1,_,h2,_⟩
  · cases h1
  · injection h1 with h3 h4
    injection h3 with h3
    injection h3 with h3
    subst h3
    simp [World.frozen?,h2]
theorem RowG.kept (h:RowG t c w base v L) (hb:∀ g,v.ownBlock = some g → w'.heap[g]? = w.heap[g]?):RowG t c w' base v L:=by
  refine ⟨⟨h.1.1,?_⟩,h.2⟩
  rcases h.1.2 with h1 | ⟨g,cap,cur,rfl,h1,h2,h3⟩
  · exact .inl h1
  · exact .inr ⟨g,cap,cur,rfl,h1,by rw [hb g rfl];exact h2,h3⟩
theorem RowG.lt (h:RowG t c w base v L):∀ g,v.ownBlock = some g → base ≤ g∧g < w.heap.size:=h.1.lt
theorem RowG.bl (h:RowG t c w base v L) (hb:Bl w w'):RowG t c w' base v L:=h.kept fun g hg=>hb.block g (h.lt g hg).2
theorem RowG.base_ {b2:Nat} (h:RowG t c w base v L) (hb:∀ g,v.ownBlock = some g → b2 ≤ g):RowG t c w b2 v L:=by
  refine ⟨⟨h.1.1,?_⟩,h.2⟩
  rcases h.1.2 with h1 | ⟨g,cap,cur,rfl,h1,h2,h3⟩
  · exact .inl h1
  · exact .inr ⟨g,cap,cur,rfl,hb g rfl,h2,h3⟩
theorem RowG.type (h:RowG t c w base v L) {g:Nat} (hg:v.ownBlock = some g):∃ cur,w.heap[g]? = some (.cells cur t (0,0)):=by
  rcases h.1.2 with ⟨rfl,_⟩ | ⟨g',cap,cur,rfl,h1,h2,h3⟩
  · cases hg
  · simp only [Value.ownBlock,Option.some.injEq] at hg
    subst hg
    exact ⟨cur,h2⟩
end
theorem row_append {α:Type} {c:α → List Value} {t ts:TypeId} {i:TypeInfo} {z:Value} {bytes:Nat} {W:World} {base:Nat} {v:Value} {L:List α} (ht:Tryz.prog.underlying ts = some (.slice t)) (hi:Tryz.prog.info? t = some i) (hz:i.zero = some z) (hsize:i.size = 3) (hby:i.bytes = bytes) (hzs:z.cells.size = 3) (hb1:bytes ≤ 1000)
    (hc:∀ x,(c x).length = 3) (hone:∀ x u,u ∈ c x → u.oneCell' = true) (h:RowG t c W base v L) (ty:TypeId) (A:Option Addr) (M:List α) (m cap:Nat) (hm:m = M.length) (hA:M = [] → A = none∧cap = 0) (hcell:∀ ad,A = some ad → ∀ j u,(flat c M)[j]? = some u → W.cell? (ad.add j) = some u) (hA2:M ≠ [] → A ≠ none)
    (hl:L.length + M.length ≤ 1000000) (hbase:base ≤ W.heap.size) :
    ∃ v' W',(Builtin.append_ #[ts,ts] ty #[v,.slice A m cap]).run Tryz.prog W = .ok v' W'∧RowG t c W' base v' (L ++ M)∧W.grownBy W' v.ownBlock∧(v'.ownBlock = v.ownBlock ∨ v'.ownBlock = some W.heap.size):=by
  subst hm
  rcases hM:M with _ | ⟨x,M'⟩
  · obtain ⟨rfl,rfl⟩:=hA hM
    exact ⟨v,W,run_append_owned_none (P:=Tryz.prog) (w:=W) base ts ty t i 3 ht hi v L.length (flat c L) h.1,by simpa using h,World.grownBy.refl W _,.inl rfl⟩
  · rw [← hM]
    have hne:M ≠ []:=by rw [hM];simp
    rcases A with _ | ad
    · exact absurd rfl (hA2 hne)
    · obtain ⟨v',w',h1,h2,h3,h4,h5⟩:=run_append_own_at (P:=Tryz.prog) W base ts ty t i z 3 bytes ht hi hz hsize hby hzs (by omega) v L.length (flat c L) h.1 ad M.length cap (flat c M) (flat_length hc M) (hcell ad rfl) (fun u hu=>by
        simp only [flat,List.mem_flatMap] at hu
        obtain ⟨x,_,hx⟩:=hu
        exact hone x u hx) (by simp only [maxLen];omega) (Nat.le_trans (Nat.mul_le_mul hl hb1) (by decide)) hbase
      refine ⟨v',w',h1,⟨?_,fun e=>absurd (List.append_eq_nil_iff.1 e).2 hne⟩,h3,h5⟩
      rw [List.length_append,flat_append];exact h2
def rgC (r:Rg):List Value:=[.int .u64 r.s,.int .u64 r.e,.int .i64 r.p]
abbrev Row:=RowG (α:=Rg) 79 rgC
theorem rgC_len (r:Rg):(rgC r).length = 3:=rfl
theorem rgC_one (r:Rg) (u:Value) (h:u ∈ rgC r):u.oneCell' = true:=by
  simp only [rgC,List.mem_cons,List.not_mem_nil,or_false] at h
  rcases h with rfl | rfl | rfl <;> rfl
theorem info51:(Tryz.prog.info? 79).map (fun i=>(i.zero,i.size,i.bytes)) = some (some (.agg #[.int .u64 0,.int .u64 0,.int .i64 0]),3,24):=by kernel_rfl
theorem row_cells {w:World} {base g cap n:Nat} {L:List Rg} (h:Row w base (.slice (some ⟨g,0,none⟩) n cap) L) (k:Nat) (r:Rg) (hk:L[k]? = some r) :
    w.cell? ⟨g,k * 3,none⟩ = some (.int .u64 r.s)∧w.cell? ⟨g,k * 3 + 1,none⟩ = some (.int .u64 r.e)∧w.cell? ⟨g,k * 3 + 2,none⟩ = some (.int .i64 r.p):=
  ⟨by simpa [rgC] using h.cell rgC_len k 0 r hk (by omega),by simpa [rgC] using h.cell rgC_len k 1 r hk (by omega),by simpa [rgC] using h.cell rgC_len k 2 r hk (by omega)⟩
structure Ctx where
  rest:List Value
  t:TypeId
  ne:t ≠ 79
def ListFrom (X:Ctx) (base:Nat) (w:World) (b:Nat) (L:List Rg):Prop:=∃ v,w.heap[b]? = some (.cells (v :: X.rest).toArray X.t (0,0))∧Row w base v L
abbrev ListAt (X:Ctx):=ListFrom X 0
def alone:Ctx:=⟨[],59,by decide⟩
end Go.Proofs.YtbngjbmfkekdnaaGreatDoor

namespace Go.Proofs.YtbngjbmfkekdnaaGreatDoor
open Go.RowKit

def asBytes (xs:List Int):List Value:=xs.map (Value.int .u8)
theorem asBytes_length (xs:List Int):(asBytes xs).length = xs.length:=by simp [asBytes]
theorem asBytes_append (xs ys:List Int):asBytes (xs ++ ys) = asBytes xs ++ asBytes ys:=by simp [asBytes]
theorem asBytes_get (xs:List Int) (j:Nat) (u:Value) (h:(asBytes xs)[j]? = some u):j < xs.length∧u = .int .u8 (xs.getD j 0):=by
  unfold asBytes at h
  rw [List.getElem?_map] at h
  rcases hx:xs[j]? with _ | x
  · rw [hx] at h;simp at h
  · rw [hx] at h
    have hj:j < xs.length:=by
      rcases Nat.lt_or_ge j xs.length with h1 | h1
      · exact h1
      · rw [List.getElem?_eq_none h1] at hx;cases hx
    simp at h
    exact ⟨hj,by rw [← h,List.getD_eq_getElem?_getD,hx];rfl⟩
theorem asBytes_at (xs:List Int) (j:Nat) (h:j < xs.length):(asBytes xs)[j]? = some (.int .u8 (xs.getD j 0)):=by
  unfold asBytes
  rw [List.getElem?_map,List.getElem?_eq_getElem h,List.getD_eq_getElem?_getD,List.getElem?_eq_getElem h];rfl

def Rd (w:World) (A:Option Addr) (xs:List Int):Prop:=
  0 < xs.length → ∃ ad,A = some ad∧∀ i,i < xs.length → w.cell? (ad.add i) = some (.int .u8 (xs.getD i 0))

section
variable {w w':World} {A:Option Addr} {xs:List Int}
theorem Rd.at_ (h:Rd w A xs) (k:Nat) (hk:k < xs.length) :
    ∃ b off,A = some ⟨b,off,none⟩∧w.cell? ⟨b,off + k,none⟩ = some (.int .u8 (xs.getD k 0)):=by
  obtain ⟨ad,rfl,hc⟩:=h (by omega)
  have h1:=hc k hk
  have h0:=hc 0 (by omega)
  obtain ⟨b,off,spot⟩:=ad
  have hspot:spot = none:=by simpa [Addr.add] using World.cell?_spot h0
  subst hspot
  refine ⟨b,off,rfl,?_⟩
  by_cases hk0:k = 0
  · subst hk0;simpa [Addr.add] using h1
  · simpa [Addr.add,hk0] using h1
theorem add_block (a:Addr) (n:Nat):(a.add n).block = a.block:=by unfold Addr.add;split <;> rfl
theorem Rd.nil_:Rd w A []:=fun h=>absurd h (by simp)
theorem Rd.below (h:Rd w A xs) (hb:Below w.heap.size w w'):Rd w' A xs:=by
  intro h0
  obtain ⟨ad,rfl,hc⟩:=h h0
  refine ⟨ad,rfl,fun i hi=>?_⟩
  have h1:=hc i hi
  rw [hb.cell (block_lt_of_cell h1)]
  exact h1
theorem Rd.cells (h:Rd w A xs) (ad:Addr) (hA:A = some ad):∀ j u,(asBytes xs)[j]? = some u → w.cell? (ad.add j) = some u:=by
  intro j u hu
  obtain ⟨hj,rfl⟩:=asBytes_get xs j u hu
  obtain ⟨ad',h',hc⟩:=h (by omega)
  rw [hA] at h';cases h'
  exact hc j hj
theorem Rd.of_own {base e n:Nat} {v:Value} (h:w.ownsRow base e 1 v n (asBytes xs)):∃ A c,v = .slice A n c∧Rd w A xs∧n = xs.length∧(A = none → c = 0)∧n ≤ c:=by
  have hn:n = xs.length:=by have:=h.1;rw [asBytes_length] at this;omega
  rcases h.2 with ⟨rfl,h0⟩ | ⟨g,cap,cur,rfl,hb,hh,hnc,hcm,hcs,ht⟩
  · subst h0
    exact ⟨none,0,rfl,fun hx=>absurd hx (by omega),hn,fun _=>rfl,Nat.le_refl _⟩
  · refine ⟨_,_,rfl,fun _=>⟨_,rfl,fun i hi=>?_⟩,hn,(fun h=>by cases h),hnc⟩
    have:=h.cells (g:=g) rfl i _ (asBytes_at xs i hi)
    exact this
theorem Rd.drop (h:Rd w A xs) (k cap:Nat) (hk:k ≤ xs.length) (hc:xs.length ≤ cap):Rd w (if cap = k then A else A.map (·.add k)) (xs.drop k):=by
  intro h0
  rw [List.length_drop] at h0
  obtain ⟨ad,rfl,hcell⟩:=h (by omega)
  rw [if_neg (by omega)]
  refine ⟨_,rfl,fun i hi=>?_⟩
  rw [List.length_drop] at hi
  have h1:=hcell (k + i) (by omega)
  have e:(ad.add k).add i = ad.add (k + i):=by
    unfold Addr.add;by_cases a0:k = 0 <;> by_cases b0:i = 0 <;> simp [a0,b0,Nat.add_assoc]
  rw [e,h1,List.getD_eq_getElem?_getD,List.getD_eq_getElem?_getD,List.getElem?_drop]
end

theorem bytes_one (xs:List Int):∀ u ∈ asBytes xs,u.oneCell' = true:=ints_oneCell .u8 xs

theorem wpl_append {P:Program} {w:World} {ops:Array Oper} {rest:List Oper} {o:Oper} {a:Act} {Q:Exit → Act → World → Prop} (hgd:o.guard = none) (s x:Operand) (t:TypeId)
    (ho:o.op = .call { callee:=.builtin .append,args:=#[s,x],argTypes:=#[t,t] })
    (base:Nat) (e:TypeId) (i:TypeInfo) (ht:P.underlying t = some (.slice e)) (hi:P.info? e = some i) (hz:i.zero = some (.int .u8 0)) (hsize:i.size = 1) (hby:i.bytes = 1)
    (v:Value) (n:Nat) (xs:List Int) (hs:a.eval s = v) (hown:w.ownsRow base e 1 v n (asBytes xs))
    (A:Option Addr) (m c:Nat) (news:List Int) (hx:a.eval x = .slice A m c) (hr:Rd w A news) (hl:news.length = m) (hc:A = none → c = 0)
    (h63:n + m ≤ 1000000000) (hbase:base ≤ w.heap.size)
    (h:∀ v' w',w'.ownsRow base e 1 v' (n + m) (asBytes (xs ++ news)) → w.grownBy w' v.ownBlock → wpList P ops Q rest (a.put o.dst v') w'):wpList P ops Q (o :: rest) a w:=by
  rcases A with _ | ad
  · have hm:news = []:=by
      rcases Nat.eq_zero_or_pos news.length with h0 | h0
      · exact List.eq_nil_of_length_eq_zero h0
      · obtain ⟨_,h',_⟩:=hr h0;cases h'
    subst hm
    obtain rfl:m = 0:=by simpa using hl.symm
    obtain rfl:=hc rfl
    refine wpList_append_own_none hgd s x t ho base e i 1 ht hi v n (asBytes xs) hs hown hx ?_
    exact h v w (by simpa using hown) (World.grownBy.refl w _)
  · refine wpList_append_own w hgd s x t ho base e i (.int .u8 0) 1 1 ht hi hz hsize hby rfl (by omega) v n (asBytes xs) hs hown ad m c (asBytes news) hx (by rw [asBytes_length,hl,Nat.mul_one]) (hr.cells ad rfl) (bytes_one news) (by simp only [maxLen];omega) (by omega) hbase ?_
    intro v' w' h1 h2 _
    exact h v' w' (by rw [asBytes_append];exact h1) h2

theorem wpl_append_run {P:Program} {w w1:World} {ops:Array Oper} {rest:List Oper} {o:Oper} {a:Act} {Q:Exit → Act → World → Prop} (hw:Region.wanted o (yielded ops a.tmps) = true) (s x:Operand) (t:TypeId)
    (ho:o.op = .call { callee:=.builtin .append,args:=#[s,x],argTypes:=#[t,t] }) (v vx v1:Value) (hs:a.eval s = v) (hx:a.eval x = vx)
    (hrun:(Builtin.append_ #[t,t] o.type #[v,vx]).run P w = .ok v1 w1) (h:wpList P ops Q rest (a.put o.dst v1) w1):wpList P ops Q (o :: rest) a w:=by
  refine BigFrame.wpList_want hw fun K hK=>?_
  unfold Oper.wp
  simp [execOp,ho,resolve,invoke,builtin,hs,hx,hrun,Result.andThen]
  exact hK _ _ h

theorem run_copied {P:Program} (W:World) (t e:TypeId) (ty:TypeId) (ht:P.underlying t = some (.slice e)) (hsz:(P.info? e).map (·.size) = some 1)
    (base g len c:Nat) (cur:Array Value) (hg:W.heap[g]? = some (.cells cur e (0,0))) (hcs:cur.size = c) (hlc:len ≤ c) (hcm:c ≤ maxLen) (hbg:base ≤ g)
    (A:Option Addr) (cap:Nat) (xs:List Int) (hr:Rd W A xs) (hl:xs.length = len) :
    ∃ w2,(Builtin.copy_ #[t,t] ty #[.slice (some ⟨g,0,none⟩) len c,.slice A len cap]).run P W = .ok (.int .i64 (len:Int)) w2 ∧
      w2.ownsRow base e 1 (.slice (some ⟨g,0,none⟩) len c) len (asBytes xs)∧W.grownBy w2 (some g):=by
  by_cases h0:len = 0
  · subst h0
    obtain rfl:xs = []:=List.eq_nil_of_length_eq_zero hl
    exact ⟨W,run_copy_none (P:=P) W t t ty e _ _ 0 c 0 cap ht hsz rfl,⟨by simp [asBytes],.inr ⟨g,c,cur,rfl,hbg,hg,hlc,hcm,by omega,by simp [asBytes]⟩⟩,World.grownBy.refl _ _⟩
  · obtain ⟨ad,rfl,_⟩:=hr (by omega)
    have hcl:(asBytes xs).length = len:=by rw [asBytes_length,hl]
    have hrun:=run_copy_row (P:=P) W t t ty e g 0 len c ad len cap cur e (asBytes xs) ht hsz hg (by rw [hcl];exact (Nat.min_self _).symm) (hr.cells ad rfl) (by omega) (bytes_one xs)
    rw [hcl] at hrun
    refine ⟨_,hrun,⟨by omega,.inr ⟨g,c,_,rfl,hbg,setRow_heap W g _ _ e _ hg,hlc,hcm,?_,?_⟩⟩,?_⟩
    · simp [hcl];omega
    · simp [hcl]
    · exact ⟨rfl,rfl,rfl,by simp [World.setRow],fun k _ hne=>setRow_other W g k _ (fun e=>hne (by rw [e]))⟩
end Go.Proofs.YtbngjbmfkekdnaaGreatDoor

namespace Go.Proofs.YtbngjbmfkekdnaaGreatDoor
open Go.RowKit
set_option maxRecDepth 100000
theorem min_run {P:Program} (ts:Array TypeId) (t:TypeId) (k k':IntKind) (x y:Int) (w:World):(Builtin.min_ ts t #[.int k x,.int k' y]).run P w = .ok (.int k (if y < x then y else x)) w:=by
  simp [Builtin.min_,Builtin.min2]
theorem max_run {P:Program} (ts:Array TypeId) (t:TypeId) (k k':IntKind) (x y:Int) (w:World):(Builtin.max_ ts t #[.int k x,.int k' y]).run P w = .ok (.int k (if x < y then y else x)) w:=by
  simp [Builtin.max_,Builtin.max2]
theorem row_push {W:World} {base:Nat} {v:Value} {L:List Rg} (h:Row W base v L) (q:Rg) (g:Nat) (ty:TypeId) (hg:W.heap[g]? = some (.cells #[.int .u64 q.s,.int .u64 q.e,.int .i64 q.p] 79 (0,0))) (hl:L.length ≤ 100000) (hbase:base ≤ W.heap.size) :
    ∃ v' W',(Builtin.append_ #[57,57] ty #[v,.slice (some ⟨g,0,none⟩) 1 1]).run Tryz.prog W = .ok v' W'∧Row W' base v' (L ++ [q])∧W.grownBy W' v.ownBlock∧(v'.ownBlock = v.ownBlock ∨ v'.ownBlock = some W.heap.size):=by
  obtain ⟨i0,hi0,hz0,hz1,hz2⟩:=info_parts info51
  refine row_append (t:=79) (ts:=57) Tryz.underlying57 hi0 hz0 hz1 hz2 rfl (by omega) rgC_len rgC_one h ty (some ⟨g,0,none⟩) [q] 1 1 rfl (fun e=>by cases e) (fun ad had j u hj=>?_) (fun _ e=>by cases e) (by simp;omega) hbase
  cases had
  have e1:(⟨g,0,none⟩:Addr).add j = ⟨g,j,none⟩:=by unfold Addr.add;split <;> simp_all
  rw [e1,cell_of_row W g j _ 79 (0,0) hg]
  simpa [flat,rgC] using hj
def addr0 (b:Nat):Value:=.pointer (some ⟨b,0,none⟩)
def RowPost (w:World) (L:List Rg) (e:Ending) (w':World):Prop:=∃ v,e = .returned v∧Row w' w.heap.size v L∧Bl w w'
theorem within_take (L:List Rg) (a b:Int) (k:Nat) (r:Rg) (hk:L[k]? = some r):within (L.take (k + 1)) a b = within (L.take k) a b ++ (clip a b r).toList:=by
  rw [List.take_add_one,hk]
  simp only [within,List.filterMap_append,Option.toList]
  cases h:clip a b r <;> simp [h]
theorem within_any {X:Ctx} {w:World} {b:Nat} {L:List Rg} (h:ListAt X w b L) (a c:Int) (hl:L.length ≤ 1000) :
    Calls Tryz.prog 104 #[addr0 b,.int .u64 a,.int .u64 c] w (RowPost w (within L a c)):=by
  obtain ⟨v,hb,hr⟩:=h
  obtain ⟨A,cap,rfl⟩:=hr.shape
  have hcell:w.cell? ⟨b,0,none⟩ = some (.slice A L.length cap):=by rw [cell_of_row w b 0 _ _ (0,0) hb];simp
  have hlI:(L.length:Int) ≤ 1000:=by omega
  have HR:=hid hr;clear hr
  have HB:=hid hb;clear hb
  obtain ⟨n,hn⟩:∃ n,n = L.length:=⟨_,rfl⟩
  rw [← hn] at hcell hlI HR
  have HN:=hid hn;clear hn
  have HL:=hid hl;clear hl
  unfold addr0
  go_enter Tryz.func104,Tryz.ntmps104
  go_wp2_with fail
  go_loopw [7,9,15] (fun v7 _ i wr=>∃ k:Nat,k ≤ n∧i = .int .i64 k∧Row wr w.heap.size v7 (within (L.take k) a c)∧Bl w wr) (fun _ _ i _=>n - (intOf i).toNat)
  case atStart=>exact ⟨0,by omega,rfl,RowG.nil,Bl.refl _⟩
  case round =>
    obtain ⟨k,hk,rfl,hrow,hbl⟩:=hrel
    have HROW:=hid hrow;clear hrow
    have HBL:=hid hbl;clear hbl
    by_cases hlt:k < n
    · have hltL:k < L.length:=by have:=HN.out;omega
      obtain ⟨r,hr⟩:∃ r,L[k]? = some r:=⟨L[k],List.getElem?_eq_getElem hltL⟩
      have hne:L ≠ []:=by intro e;rw [e] at hltL;simp at hltL
      obtain ⟨g,cap',cur,hA,_,hnc,hg,_⟩:=HR.out.form hne
      have hA':A = some ⟨g,0,none⟩:=by injection hA
      subst hA'
      obtain ⟨c0,c1,c2⟩:=row_cells (HR.out.bl HBL.out) k r hr
      clear hA hnc hg hne hltL
      have HRK:=hid hr;clear hr
      have hkI:(k:Int) < (n:Int):=by omega
      obtain ⟨m1,hm1⟩:∃ m1,m1 = max r.s a:=⟨_,rfl⟩
      obtain ⟨m2,hm2⟩:∃ m2,m2 = min r.e c:=⟨_,rfl⟩
      have mx:∀ ts t W,(Builtin.max_ ts t #[.int .u64 r.s,.int .u64 a]).run Tryz.prog W = .ok (.int .u64 m1) W:=fun ts t W=>by
        rw [max_run];congr 2;rw [hm1];omega
      have mn:∀ ts t W,(Builtin.min_ ts t #[.int .u64 r.e,.int .u64 c]).run Tryz.prog W = .ok (.int .u64 m2) W:=fun ts t W=>by
        rw [min_run];congr 2;rw [hm2];omega
      have hclip:clip a c r = if m1 < m2 then some ⟨m1,m2,r.p⟩ else none:=by rw [hm1,hm2];unfold clip;split <;> rfl
      have hstep:=within_take L a c k r HRK.out
      rw [hclip] at hstep
      have hwl:(within (L.take k) a c).length ≤ 1000:=by
        have h1:=within_len (L.take k) a c
        have h2:=HL.out
        rw [List.length_take] at h1;omega
      clear hclip hm1 hm2
      have HS:=hid hstep;clear hstep
      have HWL:=hid hwl;clear hwl
      by_cases hc:m1 < m2
      · have hb2:Bl w ((wr.alloc (.cells #[.int .u64 m1,.int .u64 m2,.int .i64 r.p] 79)).alloc (.cells #[.int .u64 m1,.int .u64 m2,.int .i64 r.p] 79)):=(HBL.out.alloc _).alloc _
        have hrow2:=(HROW.out.bl (Bl.new _ (.cells #[.int .u64 m1,.int .u64 m2,.int .i64 r.p] 79))).bl (Bl.new _ (.cells #[.int .u64 m1,.int .u64 m2,.int .i64 r.p] 79))
        obtain ⟨v',W',hrun,hrow3,hgr,_⟩:=row_push hrow2 ⟨m1,m2,r.p⟩ (wr.heap.size + 1) 57 (by
          have:=heap_alloc_new (wr.alloc (.cells #[.int .u64 m1,.int .u64 m2,.int .i64 r.p] 79)) (.cells #[.int .u64 m1,.int .u64 m2,.int .i64 r.p] 79)
          rw [show (wr.alloc (.cells #[.int .u64 m1,.int .u64 m2,.int .i64 r.p] 79)).heap.size = wr.heap.size + 1 by simp] at this
          exact this) (by have:=HWL.out;omega) hb2.size
        have hbl3:Bl w W':=Below.grown hb2 hgr hb2.size (fun q hq=>(hrow2.lt q hq).1)
        have HROW3:=hid hrow3;clear hrow3 hrow2 hb2 hgr
        have HBL3:=hid hbl3;clear hbl3
        have HRUN:=hid hrun;clear hrun
        go_wp2_with (first | (at_builtin;refine wpl_append_run rfl (.tmp 34) (.tmp 36) 57 rfl _ _ _ rfl rfl HRUN.out ?_))
        refine ⟨⟨k + 1,by omega,by go_num,by rw [HS.out,if_pos hc];exact HROW3.out,HBL3.out⟩,?_⟩
        simp only [intOf];omega
      · have hb2:Bl w (wr.alloc (.cells #[.int .u64 m1,.int .u64 m2,.int .i64 r.p] 79)):=HBL.out.alloc _
        have hrow2:=HROW.out.bl (Bl.new _ (.cells #[.int .u64 m1,.int .u64 m2,.int .i64 r.p] 79))
        have HB2:=hid hb2;clear hb2
        have HROW2:=hid hrow2;clear hrow2
        go_wp2_with fail
        refine ⟨⟨k + 1,by omega,by go_num,by rw [HS.out,if_neg hc];simpa using HROW2.out,HB2.out⟩,?_⟩
        simp only [intOf];omega
    · obtain rfl:k = n:=by omega
      have hfin:=HROW.out
      rw [HN.out,List.take_length] at hfin
      have HF:=hid hfin;clear hfin
      go_wp2_with fail
      go_ret
      exact ⟨_,rfl,HF.out,HBL.out⟩
end Go.Proofs.YtbngjbmfkekdnaaGreatDoor
