/-
  Peek, Protect, Unmap, Check, Out of a space.
  The heap of a space: SetBrk, resize, Brk.
  Stamp of a store and of a space; Regions; a Check that only asks; In; Fetch; faults of a width that is none.
  Faults, loads, stores and fetches of any width.
  Store of any width; Fetch; which prot a place has.
  What a Fetch answers, told by the regions and the bytes; the contract of the program's Fetch.
  Which prot a place has, as the law asks it.
  Clear of a wide span of whole pages: whatever pages are held, in whatever order they come.
  Clear of a wide span of whole pages.
  What each call that may change a space leaves: bytes or prots that changed have a greater stamp.
  Slices of numbers that came in.
  The walk of MemRooms.
  A heap below a wall; one byte that is put.
  Pages with a prot each; which places may be used.
-/
import Derived.Test.YtbngjbmfkekdnaaGreatDoorT9
import Derived.Test.YtbngjbmfkekdnaaGreatDoorT3
import Derived.Laws.BitsAll
import Derived.Laws.BitsAllLaws
import Derived.Lib.Hide
set_option linter.unusedVariables false
set_option linter.unusedSimpArgs false
set_option maxHeartbeats 16000000
open Go.Lib (hid)
namespace Go.Proofs.YtbngjbmfkekdnaaGreatDoor
open Go.RowKit
set_option maxRecDepth 100000
def ProtAny (T:Nat → Prop) (w:World) (sb n:Nat) (L:List Rg) (M st:Nat → Int) (mo ba en:Int) (a b:Nat) (p r:Int) (w':World):Prop:=
  (r = 0∧Span (a:Int) (b:Int)∧0 ≤ p∧p ≤ 7∧Mapped L a b∧(layL L a b [⟨a,b,p⟩]).length ≤ 256∧∃ st',MS T w' sb (n + 8192) (layL L a b [⟨a,b,p⟩]) M st' mo ba en∧Rise st st' (fun q=>a ≤ q * 4096∧q * 4096 < b)∧Fr T w w') ∨
  (r ≠ 0∧¬ (Span (a:Int) (b:Int)∧0 ≤ p∧p ≤ 7∧Mapped L a b∧(layL L a b [⟨a,b,p⟩]).length ≤ 256)∧Bl w w')
theorem mtouch_any {T:Nat → Prop} {w:World} {sb n:Nat} {L:List Rg} {M st:Nat → Int} {mo ba en:Int} (h:MS T w sb n L M st mo ba en) (a b:Nat) (ha:a % 4096 = 0) (hb:b % 4096 = 0) (hab:a < b) (hbt:b ≤ 274877906944) (hn:n < 80000000) (hT:∀ b,w.heap.size ≤ b → T b) :
    Calls Tryz.prog 40 #[.pointer (some ⟨sb,1,none⟩),.int .u64 (a:Int),.int .u64 (b:Int)] w fun e w'=>e = .returned (.tuple #[])∧∃ st',MS T w' sb (n + 8192) L M st' mo ba en∧Rise st st' (fun q=>a ≤ q * 4096∧q * 4096 < b)∧Fr T w w':=by
  obtain ⟨rg,f,k0,h1,h2,h3⟩:=h.ex
  refine (touch_any h1 a b hab hbt hn (off_new h2 hT)).mono ?_
  rintro e w' ⟨rfl,⟨st',h4,hr⟩,hf⟩
  exact ⟨rfl,st',h.stored h2 h3 h4 hf h.by_,hr.mono fun p hp=>by omega,hf.off_of⟩
theorem lprotect_any {X:Ctx} {w:World} {b0:Nat} {L:List Rg} (h:ListAt X w b0 L) (hrs:Rs L) (hl:L.length ≤ 256) (a b:Nat) (p:Int) (ha:a < 2 ^ 64) (hb:b < 2 ^ 64) :
    Calls Tryz.prog 39 #[addr0 b0,.int .u64 (a:Int),.int .u64 (b:Int),.int .i64 p] w fun e w'=>∃ r,e = .returned (.int .i64 r) ∧
      ((r = 0∧Span (a:Int) (b:Int)∧0 ≤ p∧p ≤ 7∧Mapped L a b∧(layL L a b [⟨a,b,p⟩]).length ≤ 256∧ListFrom X w.heap.size w' b0 (layL L a b [⟨a,b,p⟩])∧Fr (only b0) w w') ∨
       (r ≠ 0∧¬ (Span (a:Int) (b:Int)∧0 ≤ p∧p ≤ 7∧Mapped L a b∧(layL L a b [⟨a,b,p⟩]).length ≤ 256)∧Bl w w')):=by
  by_cases hs:Span (a:Int) (b:Int)∧0 ≤ p∧p ≤ 7
  · obtain ⟨hs,hp0,hp1⟩:=hs
    by_cases hm:Mapped L a b
    · rcases Nat.lt_or_ge 256 (layL L a b [⟨a,b,p⟩]).length with hc | hc
      · refine (protect_many h hrs.nm.so a b p (by omega) hs hp0 hp1 hl hm hc).mono ?_
        rintro e w' ⟨rfl,k⟩
        exact ⟨12,rfl,.inr ⟨by omega,fun e=>by omega,k⟩⟩
      · refine (protect_ok h hrs.nm.so a b p (by omega) hs hp0 hp1 hl hm hc).mono ?_
        rintro e w' ⟨rfl,k,f⟩
        exact ⟨0,rfl,.inl ⟨rfl,hs,hp0,hp1,hm,hc,k,f⟩⟩
    · refine (protect_hole h hrs.nm.so a b p (by omega) hs hp0 hp1 hl hm).mono ?_
      rintro e w' ⟨rfl,k⟩
      exact ⟨12,rfl,.inr ⟨by omega,fun e=>hm e.2.2.2.1,k⟩⟩
  · refine (protect_no b0 a b p (by omega) (by omega) (by omega) (by omega) hs).mono ?_
    rintro e w' ⟨rfl,k⟩
    exact ⟨22,rfl,.inr ⟨by omega,fun e=>hs ⟨e.1,e.2.1,e.2.2.1⟩,k⟩⟩
theorem mprotect_any {T:Nat → Prop} {w:World} {sb n:Nat} {L:List Rg} {M st:Nat → Int} {mo ba en:Int} (h:MS T w sb n L M st mo ba en) (a b:Nat) (size p:Int) (ha:a < 2 ^ 64) (hb:(b:Int) = IntKind.u64.wrap (a + upW size)) (hn:n < 80000000) (hT:∀ b,w.heap.size ≤ b → T b) :
    Calls Tryz.prog 16 #[addr0 sb,.int .u64 (a:Int),.int .u64 size,.int .i64 p] w fun e w'=>∃ r,e = .returned (.int .i64 r)∧ProtAny T w sb n L M st mo ba en a b p r w':=by
  have hb2:b < 2 ^ 64:=by have:=wrap_in (a + upW size);omega
  obtain ⟨X,hX⟩:=h.list
  have cl:=lprotect_any hX h.rs h.few a b p ha hb2
  have cu:=fun W=>mup_any size W
  have CU:=hid cu;clear cu
  have CL:=hid cl;clear cl
  have HX:=hid hX;clear hX
  have H:=hid h;clear h
  have HT:=hid hT;clear hT
  have HB:=hid hb;clear hb
  generalize upW size = us at *
  have hx0:(0:Int) ≤ (a:Int):=by omega
  unfold addr0 at *
  go_enter Tryz.func16,Tryz.ntmps16
  go_wp2_with fail
  refine (CU.out _).mono ?_
  rintro e w' ⟨rfl,rfl⟩
  go_wp2_with fail
  rw [← HB.out]
  refine CL.out.mono ?_
  rintro e w1 ⟨r,rfl,hr⟩
  clear CL CU
  rcases hr with ⟨rfl,s1,p0,p1,hm,hc,hl,hf⟩ | ⟨hr,hno,k⟩
  · have h1:=H.out.laid HX.out hl hf (H.out.rs.lay (by omega) s1) hc HT.out
    have f1:Fr T w w1:=hf.only_of H.out.own
    have H1:=hid h1
    have F1:=hid f1
    have S1:=hid s1
    have HM:=hid hm
    have HC:=hid hc
    clear h1 f1 s1 hm hc hl hf
    go_wp2_with fail
    refine (mtouch_any H1.out a b (by have:=S1.out.1;omega) (by have:=S1.out.2.1;omega) (by have:=S1.out.2.2.1;omega) (by have:=S1.out.2.2.2;omega) hn (fun b hb=>HT.out b (Nat.le_trans F1.out.size hb))).mono ?_
    rintro e w2 ⟨rfl,st',m2,r2,f2⟩
    have M2:=hid m2;clear m2
    have R2:=hid r2;clear r2
    have F2:=hid f2;clear f2
    go_wp2_with fail
    go_ret
    exact ⟨0,rfl,.inl ⟨rfl,S1.out,p0,p1,HM.out,HC.out,st',M2.out,R2.out,F1.out.trans F2.out⟩⟩
  · have t5:(r != 0) = true:=by simp [hr]
    have HR:=hid hr;clear hr
    have HNO:=hid hno;clear hno
    have K:=hid k;clear k
    go_wp2_with fail
    go_ret
    exact ⟨r,rfl,.inr ⟨HR.out,HNO.out,K.out⟩⟩
def UnmapAny (T:Nat → Prop) (w:World) (sb n:Nat) (L:List Rg) (M st:Nat → Int) (mo ba en:Int) (a b:Nat) (r:Int) (w':World):Prop:=
  (r = 0∧Span (a:Int) (b:Int)∧(layL L a b []).length ≤ 256∧ClearPost T w sb n (layL L a b []) M st mo ba en a b w') ∨ (r ≠ 0∧¬ (Span (a:Int) (b:Int)∧(layL L a b []).length ≤ 256)∧Bl w w')
theorem lunmap_any {X:Ctx} {w:World} {b0:Nat} {L:List Rg} (h:ListAt X w b0 L) (hl:L.length ≤ 256) (a b:Nat) (ha:a < 2 ^ 64) (hb:b < 2 ^ 64) :
    Calls Tryz.prog 42 #[addr0 b0,.int .u64 (a:Int),.int .u64 (b:Int)] w fun e w'=>∃ r,e = .returned (.int .i64 r) ∧
      ((r = 0∧Span (a:Int) (b:Int)∧(layL L a b []).length ≤ 256∧ListFrom X w.heap.size w' b0 (layL L a b [])∧Fr (only b0) w w') ∨ (r ≠ 0∧¬ (Span (a:Int) (b:Int)∧(layL L a b []).length ≤ 256)∧Bl w w')):=by
  by_cases hs:Span (a:Int) (b:Int)
  · rcases Nat.lt_or_ge 256 (layL L a b []).length with hc | hc
    · refine (unmap_many h a b (by omega) hs hl hc).mono ?_
      rintro e w' ⟨rfl,k⟩
      exact ⟨12,rfl,.inr ⟨by omega,fun e=>by omega,k⟩⟩
    · refine (unmap_ok h a b (by omega) hs hl hc).mono ?_
      rintro e w' ⟨rfl,k,f⟩
      exact ⟨0,rfl,.inl ⟨rfl,hs,hc,k,f⟩⟩
  · refine (unmap_no b0 a b (by omega) (by omega) (by omega) (by omega) hs).mono ?_
    rintro e w' ⟨rfl,k⟩
    exact ⟨22,rfl,.inr ⟨by omega,fun e=>hs e.1,k⟩⟩
theorem munmap_of {T:Nat → Prop} {w:World} {sb n:Nat} {L:List Rg} {M st:Nat → Int} {mo ba en:Int} (h:MS T w sb n L M st mo ba en) (a b:Nat) (size:Int) (ha:a < 2 ^ 64) (hb:(b:Int) = IntKind.u64.wrap (a + upW size)) (hn:n < 80000000) (hT:∀ b,w.heap.size ≤ b → T b)
    (hcl:∀ W L',a % 4096 = 0 → b % 4096 = 0 → a < b → b ≤ 274877906944 → w.heap.size ≤ W.heap.size → MS T W sb n L' M st mo ba en → Calls Tryz.prog 43 #[.pointer (some ⟨sb,1,none⟩),.int .u64 (a:Int),.int .u64 (b:Int)] W fun e w'=>e = .returned (.tuple #[])∧ClearPost T W sb n L' M st mo ba en a b w') :
    Calls Tryz.prog 18 #[addr0 sb,.int .u64 (a:Int),.int .u64 size] w fun e w'=>∃ r,e = .returned (.int .i64 r)∧UnmapAny T w sb n L M st mo ba en a b r w':=by
  have hb2:b < 2 ^ 64:=by have:=wrap_in (a + upW size);omega
  obtain ⟨X,hX⟩:=h.list
  have cl:=lunmap_any hX h.few a b ha hb2
  have cu:=fun W=>mup_any size W
  have CU:=hid cu;clear cu
  have CL:=hid cl;clear cl
  have HX:=hid hX;clear hX
  have H:=hid h;clear h
  have HT:=hid hT;clear hT
  have HB:=hid hb;clear hb
  have HCL:=hid hcl;clear hcl
  generalize upW size = us at *
  have hx0:(0:Int) ≤ (a:Int):=by omega
  unfold addr0 at *
  go_enter Tryz.func18,Tryz.ntmps18
  go_wp2_with fail
  refine (CU.out _).mono ?_
  rintro e w' ⟨rfl,rfl⟩
  go_wp2_with fail
  rw [← HB.out]
  refine CL.out.mono ?_
  rintro e w1 ⟨r,rfl,hr⟩
  clear CL CU
  rcases hr with ⟨rfl,s1,hc,hl,hf⟩ | ⟨hr,hno,k⟩
  · have h1:=H.out.laid HX.out hl hf (H.out.rs.cut (by omega) s1) hc HT.out
    have f1:Fr T w w1:=hf.only_of H.out.own
    have H1:=hid h1
    have F1:=hid f1
    have S1:=hid s1
    have HC:=hid hc
    clear h1 f1 s1 hc hl hf
    go_wp2_with fail
    refine (HCL.out w1 _ (by have:=S1.out.1;omega) (by have:=S1.out.2.1;omega) (by have:=S1.out.2.2.1;omega) (by have:=S1.out.2.2.2;omega) F1.out.size H1.out).mono ?_
    rintro e w2 ⟨rfl,st',m2,r2,f2⟩
    have M2:=hid m2;clear m2
    have R2:=hid r2;clear r2
    have F2:=hid f2;clear f2
    go_wp2_with fail
    go_ret
    exact ⟨0,rfl,.inl ⟨rfl,S1.out,HC.out,st',M2.out,R2.out,F1.out.trans F2.out⟩⟩
  · have t5:(r != 0) = true:=by simp [hr]
    have HR:=hid hr;clear hr
    have HNO:=hid hno;clear hno
    have K:=hid k;clear k
    go_wp2_with fail
    go_ret
    exact ⟨r,rfl,.inr ⟨HR.out,HNO.out,K.out⟩⟩
end Go.Proofs.YtbngjbmfkekdnaaGreatDoor

namespace Go.Proofs.YtbngjbmfkekdnaaGreatDoor
open Go.RowKit
set_option maxRecDepth 100000
def Clears (T:Nat → Prop) (w:World) (sb n:Nat) (M st:Nat → Int) (mo ba en:Int) (a b:Nat):Prop:=∀ W L',a % 4096 = 0 → b % 4096 = 0 → a < b → b ≤ 274877906944 → w.heap.size ≤ W.heap.size → MS T W sb n L' M st mo ba en → Calls Tryz.prog 43 #[.pointer (some ⟨sb,1,none⟩),.int .u64 (a:Int),.int .u64 (b:Int)] W fun e w'=>e = .returned (.tuple #[])∧ClearPost T W sb n L' M st mo ba en a b w'
end Go.Proofs.YtbngjbmfkekdnaaGreatDoor

namespace Go.Proofs.YtbngjbmfkekdnaaGreatDoor
open Go.RowKit
set_option maxRecDepth 100000
theorem zeroU (w:World):(zeroValue 29).run Tryz.prog w = .ok (.int .u64 0) w:=by kernel_rfl
theorem SMV.look {S:Nat → Prop} {w:World} {sm:Value} {n:Nat} {c:Int} {st:Nat → Int} (h:SMV S w sm n c st) {p:Nat} (hp:p < 2 ^ 64) :
    ∃ v ok,(Instr.lookup 61 sm (.int .u64 (p:Int)) true).run Tryz.prog w = .ok (.tuple #[.int .u64 v,.bool ok]) w∧((ok = true∧v = st p) ∨ (ok = false∧c = st p)):=by
  rcases h with ⟨rfl,h1⟩ | ⟨B,D,rfl,_,hown,g,hg1,hg2,hg3⟩
  · exact ⟨0,false,Maps.look_nil true law27 Tryz.underlying61 (zeroU w) (key_of hp),.inr ⟨rfl,(h1 p hp).symm⟩⟩
  · have hz:plainElem (H:=Nat) Tryz.prog 29 (.int .u64 0) = some (.lit (.int .u64 0),[]):=plainElem_int Tryz.underlying29 (by decide)
    obtain ⟨v,ps,hrun,hv⟩:=hown.look_ok law27 Tryz.underlying61 (zeroU w) hz (key_of hp)
    obtain ⟨a,rfl,e,_⟩:=plainElem_int_inv Tryz.underlying29 hv
    refine ⟨a,_,hrun,?_⟩
    rw [hg1 p hp]
    rcases hgp:g p with _ | y
    · exact .inr ⟨rfl,by rw [hg3 p hp,hgp];rfl⟩
    · refine .inl ⟨rfl,?_⟩
      rw [hg2 p y hp hgp] at e
      injection e with e
      injection e with e
      injection e with _ e
      rw [hg3 p hp,hgp,← e];rfl
theorem pstamp_any {Y:Rest} {S:Nat → Prop} {w:World} {sb n k:Nat} {f:Nat → Option Nat} {M st:Nat → Int} (h:StoreAt Y S w sb n f k M st) (p:Nat) (hp:p < 2 ^ 64) :
    Calls Tryz.prog 111 #[.pointer (some ⟨sb,1,none⟩),.int .u64 (p:Int)] w fun e w'=>e = .returned (.int .u64 (st p))∧w = w':=by
  obtain ⟨pm,sm,c,l,h⟩:=h
  obtain ⟨c0,c1,c2,c3⟩:=h.cell
  obtain ⟨v,ok,hlook,hv⟩:=h.stamps.look hp
  clear h
  rcases hv with ⟨rfl,hv⟩ | ⟨rfl,hv⟩
  · have HV:=hid hv;clear hv
    go_enter Tryz.func111,Tryz.ntmps111
    go_wp2
    go_ret
    exact ⟨by rw [← HV.out];rfl,rfl⟩
  · have HV:=hid hv;clear hv
    go_enter Tryz.func111,Tryz.ntmps111
    go_wp2
    go_ret
    exact ⟨by rw [← HV.out];rfl,rfl⟩
theorem mstamp_any {T:Nat → Prop} {w:World} {sb n:Nat} {L:List Rg} {M st:Nat → Int} {mo ba en:Int} (h:MS T w sb n L M st mo ba en) (p:Nat) (hp:p < 2 ^ 64) :
    Calls Tryz.prog 105 #[addr0 sb,.int .u64 (p:Int)] w fun e w'=>e = .returned (.int .u64 (st p))∧w = w':=by
  obtain ⟨rg,f,k0,h3,_,_⟩:=h.ex
  have cr:=pstamp_any h3 p hp
  have CR:=hid cr;clear cr h3 h
  unfold addr0
  go_enter Tryz.func105,Tryz.ntmps105
  go_wp2_with fail
  refine CR.out.mono ?_
  rintro e w1 ⟨rfl,rfl⟩
  go_wp2_with fail
  go_ret
  exact ⟨rfl,rfl⟩
end Go.Proofs.YtbngjbmfkekdnaaGreatDoor

namespace Go.Proofs.YtbngjbmfkekdnaaGreatDoor
open Go.RowKit
set_option maxRecDepth 100000
theorem can_under {L:List Rg} {p y:Int} (h:So 0 274877906944 L) (hc:Can L p y):y < 274877906944:=by
  obtain ⟨q,⟨r,hr,_,h2,_⟩,_⟩:=hc
  have:=h.2 r hr
  omega
theorem lay_ne {M:Nat → Int} {a:Nat} {cs:List Int} {x:Nat} (h:lay M a cs x ≠ M x):a ≤ x∧x < a + cs.length:=by
  rcases Nat.lt_or_ge x a with h1 | h1
  · exact absurd (lay_out _ _ _ _ (.inl h1)) h
  · rcases Nat.lt_or_ge x (a + cs.length) with h2 | h2
    · exact ⟨h1,h2⟩
    · exact absurd (lay_out _ _ _ _ (.inr h2)) h
end Go.Proofs.YtbngjbmfkekdnaaGreatDoor

namespace Go.Proofs.YtbngjbmfkekdnaaGreatDoor
open Go.RowKit
set_option maxRecDepth 100000
end Go.Proofs.YtbngjbmfkekdnaaGreatDoor

namespace Go.Proofs.YtbngjbmfkekdnaaGreatDoor
open Go.RowKit
set_option maxRecDepth 100000
def Cans (L:List Rg) (p a:Int) (n:Nat):Prop:=∀ y,a ≤ y → y < a + n → Can L p y
def FirstBad (L:List Rg) (p a b x:Int):Prop:=a ≤ x∧x < b∧¬ Can L p x∧∀ y,a ≤ y → y < x → Can L p y
theorem FirstBad.one {L:List Rg} {p a b x y:Int} (h:FirstBad L p a b x) (k:FirstBad L p a b y):x = y:=by
  obtain ⟨h1,h2,h3,h4⟩:=h
  obtain ⟨k1,k2,k3,k4⟩:=k
  rcases Int.lt_trichotomy x y with e | e | e
  · exact absurd (k4 x h1 e) h3
  · exact e
  · exact absurd (h4 y k1 e) k3
theorem FirstBad.not {L:List Rg} {p a x:Int} {n:Nat} (h:FirstBad L p a (a + n) x):¬ Cans L p a n:=fun k=>h.2.2.1 (k x h.1 h.2.1)
def HalfIs (L:List Rg) (M:Nat → Int) (a:Nat) (y k x:Int):Prop:=(k = 3∧y = 0∧(a:Int) ≤ x∧x < a + (2:Nat)∧¬ Can L 4 x∧∀ y,(a:Int) ≤ y → y < x → Can L 4 y) ∨ (k = 0∧x = 0∧y = numAt M a 2∧∀ z,(a:Int) ≤ z → z < a + (2:Nat) → Can L 4 z)
inductive FetchIs (L:List Rg) (M:Nat → Int) (a:Nat):Int → Int → Int → Prop
  | odd:a % 2 = 1 → FetchIs L M a 0 3 a
  | bad1 (x:Int):a % 2 = 0 → FirstBad L 4 a (a + (2:Nat)) x → FetchIs L M a 0 3 x
  | short:a % 2 = 0 → Cans L 4 a 2 → numAt M a 2 % 4 ≠ 3 → FetchIs L M a (numAt M a 2) 0 0
  | bad2 (x:Int):a % 2 = 0 → Cans L 4 a 2 → numAt M a 2 % 4 = 3 → FirstBad L 4 ((a + 2:Nat):Int) (((a + 2:Nat):Int) + (2:Nat)) x → FetchIs L M a 0 3 x
  | long:a % 2 = 0 → Cans L 4 a 2 → Cans L 4 ((a + 2:Nat):Int) 2 → numAt M a 2 % 4 = 3 → FetchIs L M a (numAt M a 4) 0 0
def FetchPost (w:World) (L:List Rg) (M:Nat → Int) (a:Nat) (e:Ending) (w':World):Prop:=∃ y k x,e = .returned (.tuple #[.int .u32 y,faultV k x])∧FetchIs L M a y k x∧Bl w w'
theorem FetchIs.one {L:List Rg} {M:Nat → Int} {a:Nat} {y k x y' k' x':Int} (h:FetchIs L M a y k x) (g:FetchIs L M a y' k' x'):y = y'∧k = k'∧x = x':=by
  cases h with
  | odd h1 =>
    cases g with
    | odd=>exact ⟨rfl,rfl,rfl⟩
    | bad1 _ g1 _=>omega
    | short g1=>omega
    | bad2 _ g1=>omega
    | long g1=>omega
  | bad1 _ h1 h2 =>
    cases g with
    | odd=>omega
    | bad1 _ g1 g2=>exact ⟨rfl,rfl,h2.one g2⟩
    | short _ g2=>exact absurd g2 h2.not
    | bad2 _ _ g2=>exact absurd g2 h2.not
    | long _ g2=>exact absurd g2 h2.not
  | short h1 h2 h3 =>
    cases g with
    | odd=>omega
    | bad1 _ g1 g2=>exact absurd h2 g2.not
    | short _ g2=>exact ⟨rfl,rfl,rfl⟩
    | bad2 _ _ g2 g3=>exact absurd g3 h3
    | long _ g2 _ g3=>exact absurd g3 h3
  | bad2 _ h1 h2 h3 h4 =>
    cases g with
    | odd=>omega
    | bad1 _ g1 g2=>exact absurd h2 g2.not
    | short _ g2 g3=>exact absurd h3 g3
    | bad2 _ _ g2 g3 g4=>exact ⟨rfl,rfl,h4.one g4⟩
    | long _ g2 g4 g3=>exact absurd g4 h4.not
  | long h1 h2 h4 h3 =>
    cases g with
    | odd=>omega
    | bad1 _ g1 g2=>exact absurd h2 g2.not
    | short _ g2 g3=>exact absurd h3 g3
    | bad2 _ _ g2 g3 g4=>exact absurd h4 g4.not
    | long _ g2 g4 g3=>exact ⟨rfl,rfl,rfl⟩
theorem num2_eq (M:Nat → Int) (a:Nat):numAt M a 2 = M a + M (a + 1) * 256:=by simp [numAt,getS,bytesAt,List.range_succ]
theorem num4_eq (M:Nat → Int) (a:Nat):numAt M a 4 = M a + M (a + 1) * 256 + M (a + 2) * 65536 + M (a + 3) * 16777216:=by simp [numAt,getS,bytesAt,List.range_succ]
theorem hnum2 {M:Nat → Int} (h:∀ x,0 ≤ M x∧M x ≤ 255) (a:Nat):0 ≤ numAt M a 2∧numAt M a 2 ≤ 65535:=by
  have h1:=h a
  have h2:=h (a + 1)
  rw [num2_eq];omega
theorem num42 {M:Nat → Int} (a:Nat):numAt M a 4 = numAt M a 2 + numAt M (a + 2) 2 * 65536:=by
  rw [num4_eq,num2_eq,num2_eq,show a + 2 + 1 = a + 3 from rfl];omega
theorem and3 {y:Int} (h0:0 ≤ y) (h1:y ≤ 65535):bits .and .u32 y 3 = y % 4:=by
  obtain ⟨n,rfl⟩:=Int.eq_ofNat_of_zero_le h0
  have h:=u32_and_nat n 3 (by omega) (by decide)
  rw [show ((3:Nat):Int) = 3 from rfl] at h
  rw [h,show (3:Nat) = 2 ^ 2 - 1 from rfl,Nat.and_two_pow_sub_one_eq_mod]
  omega
theorem or16 {u v:Int} (h0:0 ≤ u) (h1:u ≤ 65535) (h2:0 ≤ v) (h3:v ≤ 65535):bits .or .u32 (u * 65536 % 4294967296) v = v + u * 65536:=by
  obtain ⟨p,rfl⟩:=Int.eq_ofNat_of_zero_le h0
  obtain ⟨q,rfl⟩:=Int.eq_ofNat_of_zero_le h2
  have h:=u32_or_nat (p * 65536) q (by omega) (by omega)
  rw [nat_join 16 (p * 65536) q (by show p * 65536 % 65536 = 0;omega) (by show q < 65536;omega)] at h
  rw [show (p:Int) * 65536 % 4294967296 = ((p * 65536:Nat):Int) by omega,h]
  omega
section
variable {L:List Rg} {M:Nat → Int} {a:Nat} {y k x y2 k2 x2:Int}
theorem fetch_bad1 (ho:(a:Int) % 2 = 0) (h:HalfIs L M a y k x) (hk:¬ k = 0):FetchIs L M a y k x:=by
  rcases h with ⟨rfl,rfl,h⟩ | ⟨h,_⟩
  · exact .bad1 x (by omega) h
  · exact absurd h hk
theorem fetch_short (hb:∀ x,0 ≤ M x∧M x ≤ 255) (ho:(a:Int) % 2 = 0) (h:HalfIs L M a y 0 x) (h3:¬ bits .and .u32 y 3 = 3):FetchIs L M a y 0 x:=by
  rcases h with ⟨h,_⟩ | ⟨_,rfl,rfl,h⟩
  · cases h
  · have:=hnum2 hb a
    rw [and3 (by omega) (by omega)] at h3
    exact .short (by omega) h h3
theorem half_two (hb:∀ x,0 ≤ M x∧M x ≤ 255) (hs:So 0 274877906944 L) (h:HalfIs L M a y 0 x) (h3:bits .and .u32 y 3 = 3):Cans L 4 a 2∧numAt M a 2 % 4 = 3∧(a + 2) % 18446744073709551616 = a + 2∧y = numAt M a 2:=by
  rcases h with ⟨h,_⟩ | ⟨_,rfl,rfl,h⟩
  · cases h
  · have:=hnum2 hb a
    rw [and3 (by omega) (by omega)] at h3
    have:=can_under hs (h (a + 1) (by omega) (by omega))
    exact ⟨h,h3,by omega,rfl⟩
theorem fetch_bad2 (hb:∀ x,0 ≤ M x∧M x ≤ 255) (hs:So 0 274877906944 L) (ho:(a:Int) % 2 = 0) (h:HalfIs L M a y 0 x) (h3:bits .and .u32 y 3 = 3) (h2:HalfIs L M ((a + 2) % 18446744073709551616) y2 k2 x2) (hk:¬ k2 = 0):FetchIs L M a 0 k2 x2:=by
  obtain ⟨g1,g2,g3,_⟩:=half_two hb hs h h3
  rw [g3] at h2
  rcases h2 with ⟨rfl,rfl,h⟩ | ⟨h,_⟩
  · exact .bad2 x2 (by omega) g1 g2 h
  · exact absurd h hk
theorem fetch_long (hb:∀ x,0 ≤ M x∧M x ≤ 255) (hs:So 0 274877906944 L) (ho:(a:Int) % 2 = 0) (h:HalfIs L M a y 0 x) (h3:bits .and .u32 y 3 = 3) (h2:HalfIs L M ((a + 2) % 18446744073709551616) y2 0 x2):FetchIs L M a (bits .or .u32 (y2 * 65536 % 4294967296) y) 0 0:=by
  obtain ⟨g1,g2,g3,rfl⟩:=half_two hb hs h h3
  rw [g3] at h2
  rcases h2 with ⟨h,_⟩ | ⟨_,_,rfl,h⟩
  · cases h
  · have e1:=hnum2 hb a
    have e2:=hnum2 hb (a + 2)
    rw [or16 (by omega) (by omega) (by omega) (by omega),← num42]
    exact .long (by omega) g1 h g2
end
theorem half_is {T:Nat → Prop} {w:World} {sb n0:Nat} {L:List Rg} {M st:Nat → Int} {mo ba en:Int} (h:MS T w sb n0 L M st mo ba en) (a:Nat) (ha:a < 2 ^ 64) :
    Calls Tryz.prog 106 #[addr0 sb,.int .u64 (a:Int)] w fun e w'=>∃ y k x,e = .returned (.tuple #[.int .u32 y,faultV k x])∧HalfIs L M a y k x∧Bl w w':=by
  have cf:=fault_any (h.bl (Bl.new w (.cells #[.int .i64 0,.int .u64 0] 41))) 3 a 2 4 (by omega) (by omega) (by decide)
  have cn:=fun W (hW:Bl w W)=>number_any (h.bl hW) a 2 ha (by omega) (by omega)
  have hnb0:=hnum2 h.by_ a
  unfold HalfIs
  have HSO:=hid h.so
  have CF:=hid cf;clear cf h
  have CN:=hid cn;clear cn
  generalize numAt M a 2 = N at *
  obtain ⟨n0',n1'⟩:=hnb0
  unfold addr0 at *
  go_enter Tryz.func106,Tryz.ntmps106
  go_wp2_with fail
  refine CF.out.mono ?_
  rintro e w1 ⟨k,x,rfl,hh,kk⟩
  have hb:=new2 w w1 _ _ _ kk
  have k1:=(Bl.new w (.cells #[.int .i64 0,.int .u64 0] 41)).trans kk
  clear CF kk
  have HB:=hid hb;clear hb
  have K1:=hid k1;clear k1
  unfold faultV
  rcases hh with ⟨hk,hh⟩ | ⟨hk,hx,hh⟩
  · subst hk
    have WD:=hid hh
    clear hh
    go_wp2_with fail
    have hb2:=(Bl.new w1 (.cells #[.int .i64 3,.int .u64 x] 41)).at_ HB.out
    obtain ⟨d0,d1⟩:=two_cells hb2
    obtain ⟨d2,d3⟩:=two_cells (heap_alloc_new w1 (.cells #[.int .i64 3,.int .u64 x] 41))
    have f0:∀ i,(w1.alloc (.cells #[.int .i64 3,.int .u64 x] 41)).frozen? ⟨w.heap.size,i,none⟩ = false:=fun i=>by simp [World.frozen?,hb2]
    have f00:=f0 0
    have f01:=f0 1
    have HB2:=hid hb2;clear hb2
    have K2:=hid (K1.out.alloc (.cells #[.int .i64 3,.int .u64 x] 41))
    clear HB K1 f0 CN
    generalize w1.alloc (.cells #[.int .i64 3,.int .u64 x] 41) = W at *
    go_region
    all_goals (
      (try go_wp2_with fail)
      (try simp only [Exit.inBlock,Exit.then])
      refine bodyPost_ret (results_tmp_row rfl _ _ w.heap.size 41 _ (0,0) _ rfl (set2 _ _ HB2.out) Tryz.underlying41 rfl (by kernel_rfl)) rfl ?_
      exact ⟨0,3,x,rfl,.inl ⟨rfl,rfl,WD.out⟩,(K2.out.drew.set (Nat.le_refl _) _).set (Nat.le_refl _) _⟩)
  · subst hk hx
    have HH:=hid hh;clear hh
    go_wp2_with fail
    refine (CN.out _ (K1.out.alloc _)).mono ?_
    rintro e w2 ⟨rfl,k2⟩
    have hb2:=k2.at_ ((Bl.new w1 (.cells #[.int .i64 0,.int .u64 0] 41)).at_ HB.out)
    obtain ⟨d0,d1⟩:=two_cells hb2
    have f0:∀ i,w2.frozen? ⟨w.heap.size,i,none⟩ = false:=fun i=>by simp [World.frozen?,hb2]
    have f00:=f0 0
    have f01:=f0 1
    have HB2:=hid hb2;clear hb2
    have K2:=hid ((K1.out.alloc (.cells #[.int .i64 0,.int .u64 0] 41)).trans k2)
    clear HB K1 f0 CN k2
    go_wp2_with fail
    (try simp only [Exit.inBlock,Exit.then])
    refine bodyPost_ret (results_tmp_row rfl _ _ w.heap.size 41 _ (0,0) _ rfl (set2 _ _ HB2.out) Tryz.underlying41 rfl (by kernel_rfl)) rfl ?_
    exact ⟨_,0,0,rfl,.inr ⟨rfl,rfl,rfl,HH.out⟩,(K2.out.set (Nat.le_refl _) _).set (Nat.le_refl _) _⟩
theorem fetch_is {T:Nat → Prop} {w:World} {sb n0:Nat} {L:List Rg} {M st:Nat → Int} {mo ba en:Int} (h:MS T w sb n0 L M st mo ba en) (a:Nat) (ha:a < 2 ^ 64) :
    Calls Tryz.prog 81 #[addr0 sb,.int .u64 (a:Int)] w (FetchPost w L M a):=by
  have HBY:=hid h.by_
  have HSO:=hid h.so
  unfold addr0
  by_cases hodd:(a:Int) % 2 = 0
  · have t1:((a:Int) % 2 != 0) = false:=by simp [hodd]
    have c1:=half_is (h.bl (Bl.new w (.cells #[.int .i64 0,.int .u64 0] 41))) a ha
    have c2:=fun W (hW:Bl w W)=>half_is (h.bl hW) ((a + 2) % 18446744073709551616) (by omega)
    have C1:=hid c1;clear c1
    have C2:=hid c2;clear c2 h
    have HOD:=hid hodd;clear hodd
    unfold addr0 at *
    go_enter Tryz.func81,Tryz.ntmps81
    go_wp2_with fail
    refine C1.out.mono ?_
    rintro e w1 ⟨y,k,x,rfl,hi,kk⟩
    have HI:=hid hi;clear hi
    have hb:=new2 w w1 _ _ _ kk
    have k1:=(Bl.new w (.cells #[.int .i64 0,.int .u64 0] 41)).trans kk
    clear C1 kk
    have hb2:=(Bl.new w1 (.cells #[.int .i64 k,.int .u64 x] 41)).at_ hb
    have hb3:=heap_alloc_new w1 (.cells #[.int .i64 k,.int .u64 x] 41)
    have K2:=hid (k1.alloc (.cells #[.int .i64 k,.int .u64 x] 41))
    obtain ⟨d0,d1⟩:=two_cells hb2
    obtain ⟨d2,d3⟩:=two_cells hb3
    have fz:∀ i,(w1.alloc (.cells #[.int .i64 k,.int .u64 x] 41)).frozen? ⟨w.heap.size,i,none⟩ = false:=fun i=>by simp [World.frozen?,hb2]
    have f00:=fz 0
    have f01:=fz 1
    have HB2:=hid hb2
    have HB3:=hid hb3
    have hlt1:w.heap.size < w1.heap.size:=lt_at hb
    clear hb k1 hb2 hb3 fz
    unfold faultV
    by_cases hk:k = 0
    · subst hk
      by_cases hb:bits .and .u32 y 3 = 3
      · have tb:(bits .and .u32 y 3 != 3) = false:=by simp [hb]
        have e2:IntKind.u64.wrap ((a:Int) + 2) = (((a + 2) % 18446744073709551616:Nat):Int):=by rw [IntKind.wrap_u64];omega
        have HBB:=hid hb;clear hb
        have E2:=hid e2;clear e2
        go_wp2_with fail
        rw [E2.out]
        refine (C2.out _ K2.out).mono ?_
        rintro e w2 ⟨y2,k2,x2,rfl,hi2,kk2⟩
        have HI2:=hid hi2;clear hi2
        have hb4:=kk2.at_ HB2.out
        have hb5:=kk2.at_ HB3.out
        have K4:=hid (K2.out.trans kk2)
        clear d0 d1 d2 d3 f00 f01 C2 kk2
        obtain ⟨d0,d1⟩:=two_cells hb4
        obtain ⟨d2,d3⟩:=two_cells hb5
        have fz:∀ i,w2.frozen? ⟨w.heap.size,i,none⟩ = false:=fun i=>by simp [World.frozen?,hb4]
        have fy:∀ i,w2.frozen? ⟨w1.heap.size,i,none⟩ = false:=fun i=>by simp [World.frozen?,hb5]
        have f10:=fy 0
        have f11:=fy 1
        have hne:w.heap.size ≠ w1.heap.size:=by omega
        have hb6:((w2.setCell ⟨w1.heap.size,0,none⟩ (.int .i64 k2)).setCell ⟨w1.heap.size,1,none⟩ (.int .u64 x2)).heap[w.heap.size]? = some (.cells #[.int .i64 0,.int .u64 0] 41 (0,0)):=by
          rw [Below.heap_setCell _ _ _ _ hne,Below.heap_setCell _ _ _ _ hne];exact hb4
        have hb7:=set2 (.int .i64 k2) (.int .u64 x2) hb5
        have hsz:w.heap.size ≤ w1.heap.size:=by omega
        have K7:=hid ((K4.out.set (p:=⟨w1.heap.size,0,none⟩) hsz (.int .i64 k2)).set (p:=⟨w1.heap.size,1,none⟩) hsz (.int .u64 x2))
        have HB6:=hid hb6
        have HB7:=hid hb7
        clear hb6 hb7 hb4 hb5 fz fy
        unfold faultV
        go_upto_region 7 with (fail)
        clear d0 d1 d2 d3 f10 f11
        generalize (w2.setCell ⟨w1.heap.size,0,none⟩ (.int .i64 k2)).setCell ⟨w1.heap.size,1,none⟩ (.int .u64 x2) = W at *
        obtain ⟨d0,d1⟩:=two_cells HB6.out
        obtain ⟨d2,d3⟩:=two_cells HB7.out
        have fz:∀ i,W.frozen? ⟨w.heap.size,i,none⟩ = false:=fun i=>by simp [World.frozen?,HB6.out]
        have f00:=fz 0
        have f01:=fz 1
        clear fz
        by_cases hk2:k2 = 0
        · subst hk2
          go_wp2_with fail
          (try simp only [Exit.inBlock,Exit.then])
          refine bodyPost_ret (results_tmp_row rfl _ _ w.heap.size 41 _ (0,0) _ rfl (set2 _ _ HB6.out) Tryz.underlying41 rfl (by kernel_rfl)) rfl ?_
          exact ⟨_,0,0,rfl,fetch_long HBY.out HSO.out HOD.out HI.out HBB.out HI2.out,(K7.out.set (Nat.le_refl _) _).set (Nat.le_refl _) _⟩
        · have tk:(k2 != 0) = true:=by simp [hk2]
          have HK2:=hid hk2;clear hk2
          go_wp2_with fail
          go_region
          all_goals (
            (try go_wp2_with fail)
            (try simp only [Exit.inBlock,Exit.then])
            refine bodyPost_ret (results_tmp_row rfl _ _ w.heap.size 41 _ (0,0) _ rfl (set2 _ _ HB6.out) Tryz.underlying41 rfl (by kernel_rfl)) rfl ?_
            exact ⟨0,k2,x2,rfl,fetch_bad2 HBY.out HSO.out HOD.out HI.out HBB.out HI2.out HK2.out,(K7.out.drew.set (Nat.le_refl _) _).set (Nat.le_refl _) _⟩)
      · have tb:(bits .and .u32 y 3 != 3) = true:=by simp [hb]
        have HBB:=hid hb;clear hb C2
        go_wp2_with fail
        generalize w1.alloc (.cells #[.int .i64 0,.int .u64 x] 41) = W at *
        go_region
        all_goals (
          (try go_wp2_with fail)
          (try simp only [Exit.inBlock,Exit.then])
          refine bodyPost_ret (results_tmp_row rfl _ _ w.heap.size 41 _ (0,0) _ rfl (set2 _ _ HB2.out) Tryz.underlying41 rfl (by kernel_rfl)) rfl ?_
          exact ⟨y,0,x,rfl,fetch_short HBY.out HOD.out HI.out HBB.out,(K2.out.drew.set (Nat.le_refl _) _).set (Nat.le_refl _) _⟩)
    · have tk:(k != 0) = true:=by simp [hk]
      have HK:=hid hk;clear hk C2
      go_wp2_with fail
      generalize w1.alloc (.cells #[.int .i64 k,.int .u64 x] 41) = W at *
      go_region
      all_goals (
        (try go_wp2_with fail)
        (try simp only [Exit.inBlock,Exit.then])
        refine bodyPost_ret (results_tmp_row rfl _ _ w.heap.size 41 _ (0,0) _ rfl (set2 _ _ HB2.out) Tryz.underlying41 rfl (by kernel_rfl)) rfl ?_
        exact ⟨y,k,x,rfl,fetch_bad1 HOD.out HI.out HK.out,(K2.out.drew.set (Nat.le_refl _) _).set (Nat.le_refl _) _⟩)
  · have t1:((a:Int) % 2 != 0) = true:=by simp [hodd]
    clear h
    go_enter Tryz.func81,Tryz.ntmps81
    go_wp2_with fail
    (try simp only [Exit.inBlock,Exit.then])
    refine bodyPost_ret (results_tmp_row rfl _ _ w.heap.size 41 _ (0,0) _ rfl (heap_alloc_new w _) Tryz.underlying41 rfl (by kernel_rfl)) rfl ?_
    exact ⟨0,3,a,rfl,.odd (by omega),Bl.new _ _⟩
end Go.Proofs.YtbngjbmfkekdnaaGreatDoor

namespace Go.Proofs.YtbngjbmfkekdnaaGreatDoor
open Go.RowKit
set_option maxRecDepth 100000
end Go.Proofs.YtbngjbmfkekdnaaGreatDoor

namespace Go.Proofs.YtbngjbmfkekdnaaGreatDoor
open Go.RowKit
set_option maxRecDepth 100000
theorem Bl.grownBy {a b:World} (h:Bl a b) (r:Option Nat):a.grownBy b r:=⟨h.os,h.tape,h.output,h.size,fun k hk _=>h.block k hk⟩
theorem Bl.of_grown {a b:World} (h:a.grownBy b none):Bl a b:=⟨h.os,h.tape,h.output,h.size,fun k hk=>h.block k hk (by simp)⟩
theorem u64_bounds {x:Int} (h:(Lit.int .u64 x).wf = true):0 ≤ x∧x ≤ 18446744073709551615:=by
  have h1:(decide ((0:Int) ≤ x) && decide (x ≤ 18446744073709551615)) = true:=h
  simpa using h1
section
variable {H:Type} (w:World) {ops:Array Oper} {rest:List Oper} {o:Oper} {a:Act} {Q:Exit → Act → World → Prop}
theorem wpl_next_pages (hg:o.guard = none) (it:Operand) (hop:o.op = Op.next it false) (b r n:Nat) (D:DataW Nat) (left:Lit → Bool) (cnt:Nat) (hit:a.eval it = .pointer (some ⟨r,0,none⟩)) (h:w.ranges Tryz.prog 29 ptrE b r n D left cnt)
    (hDone:cnt = 0 → (∀ kl,left kl = false) → wpList Tryz.prog ops Q rest (a.put o.dst (.tuple #[.bool false])) w)
    (hMore:∀ (p:Nat) (x:Option Nat) (w':World) (cnt':Nat),p < 2 ^ 64 → left (key p) = true → (∀ zd,D.atKey (key p) zd = datum x) → w'.ranges Tryz.prog 29 ptrE b r n D (fun z=>left z && !z.sameKey (key p)) cnt' → cnt' < cnt →
      w.grownBy w' (some r) → w'.heap.size = w.heap.size → (Instr.entry (.pointer (some ⟨r,0,none⟩))).run Tryz.prog w' = .ok (.tuple #[.int .u64 (p:Int),ptrOf x]) w' → wpList Tryz.prog ops Q rest (a.put o.dst (.tuple #[.bool true,.int .u64 (p:Int),ptrOf x])) w') :
    wpList Tryz.prog ops Q (o :: rest) a w:=by
  refine wpList_next_ranges w hg it hop 29 law27 ptrE (Value.int .u64) ptrOf (fun key kl hkey=>by obtain ⟨x,rfl,_⟩:=Maps.keyOf_int_inv Tryz.underlying29 hkey;exact ⟨x,rfl⟩) (fun v y hv=>by obtain ⟨c,rfl,_⟩:=ptrE_inv hv;exact ⟨c,rfl⟩) b r n D left cnt hit h hDone ?_
  intro x c kl y w' cnt' hkey hlk hv hat hrg hlt hgr hsz hen
  obtain ⟨x',ex,rfl,hwx⟩:=Maps.keyOf_int_inv Tryz.underlying29 hkey
  cases ex
  have hb:0 ≤ x∧x ≤ 18446744073709551615:=u64_bounds hwx
  obtain ⟨p,rfl⟩:=Int.eq_ofNat_of_zero_le hb.1
  have hy:y.1 = datum c:=by
    rw [ptrE_mk] at hv
    injection hv with hv
    rw [← hv];cases c <;> rfl
  exact hMore p c w' cnt' (by omega) hlk (fun zd=>(hat zd).trans hy) hrg hlt hgr hsz hen
end
theorem ownsMap_fun {w:World} {b n m:Nat} {D E:DataW Nat} (h:w.ownsMap Tryz.prog 29 ptrE b n D) (h':w.ownsMap Tryz.prog 29 ptrE b m E):D = E:=by
  obtain ⟨es,c,hb,_,_,rfl⟩:=h
  obtain ⟨es',c',hb',_,_,rfl⟩:=h'
  rw [hb] at hb';cases hb';rfl
theorem PM.step {w:World} {B n m k:Nat} {f:Nat → Option Nat} (h:PM w B n f k) {D:DataW Nat} (ho:w.ownsMap Tryz.prog 29 ptrE B m D) {p:Nat} (hp:p < 2 ^ 64) {x:Option Nat} (hat:∀ zd,D.atKey (key p) zd = datum x):∃ b,x = some b∧f p = some b:=by
  obtain ⟨E,h1,h2,h3,_⟩:=h
  obtain rfl:=ownsMap_fun ho h1
  have e1:f p = x:=datum_inj (by rw [← h2 p hp];exact hat _)
  have e2:=Maps.has_true_of_atKey hat
  rw [h3 p hp,e1] at e2
  rcases x with _ | b
  · cases e2
  · exact ⟨b,rfl,e1⟩
theorem SA.pm {Y:Rest} {S:Nat → Prop} {w:World} {sb n k:Nat} {f:Nat → Option Nat} {M st:Nat → Int} {sm:Value} {B:Nat} {c l:Int} (h:SA Y S w sb n f k M st (.map (some B)) sm c l):PM w B n f k:=by
  rcases h.pages with ⟨h0,_⟩ | ⟨B',h0,_,h1⟩
  · cases h0
  · cases h0;exact h1
theorem wipe_out {Y:Rest} {S:Nat → Prop} {w:World} {sb n k:Nat} {f:Nat → Option Nat} {M st:Nat → Int} {pm sm:Value} {c l:Int} (h:SA Y S w sb n f k M st pm sm c l) (num b:Nat) (hnum:num < 67108864) (A B:Int) (hA:0 ≤ A) (hB:B ≤ 274877906944) (hout:(num:Int) * 4096 + 4096 ≤ A ∨ B ≤ (num:Int) * 4096) (hAB:A < B) (hf:f num = some b) :
    Calls Tryz.prog 77 #[.pointer (some ⟨sb,1,none⟩),.int .u64 (num:Int),span A B] w fun e w'=>e = .returned (.tuple #[])∧Bl w w':=by
  have h1:=h.bl (Bl.new w (box48 A B))
  have hlook:=h1.pages.look (show num < 2 ^ 64 by omega)
  rw [hf] at hlook
  simp only [ptrOf,Option.map_some] at hlook
  obtain ⟨c0,c1,c2,c3⟩:=h1.cell
  obtain ⟨d0,d1⟩:=two_cells (heap_alloc_new w (box48 A B))
  have hz:(0:Int) ≤ (num:Int):=by omega
  have hz1:(num:Int) ≤ 67108864:=by omega
  generalize (num:Int) = x at *
  obtain ⟨mx,hmxe⟩:∃ mx,mx = max A (x * 4096):=⟨_,rfl⟩
  obtain ⟨mi,hmie⟩:∃ mi,mi = min B (x * 4096 + 4096):=⟨_,rfl⟩
  have hmx:∀ W,(Builtin.max_ #[29,29] 29 #[.int .u64 A,.int .u64 (x * 4096)]).run Tryz.prog W = .ok (.int .u64 mx) W:=fun W=>by
    rw [max_run];congr 2;split <;> omega
  have hmi:∀ W,(Builtin.min_ #[29,29] 29 #[.int .u64 B,.int .u64 (x * 4096 + 4096)]).run Tryz.prog W = .ok (.int .u64 mi) W:=fun W=>by
    rw [min_run];congr 2;split <;> omega
  have ce:=fun W=>empty_any mx mi W
  rw [decide_eq_true (by omega)] at ce
  have CE:=hid ce;clear ce h1 h hout hmxe hmie
  (try unfold addr0 at *);(try unfold span at *);(try unfold box48 at *)
  go_enter Tryz.func77,Tryz.ntmps77
  go_wp2_with fail
  refine (CE.out _).mono ?_
  rintro e w3 ⟨rfl,bl3⟩
  have BLW:=hid (((Bl.new w (.cells #[.int .u64 A,.int .u64 B] 113)).alloc (.cells #[.int .u64 mx,.int .u64 mi] 113)).trans bl3)
  clear bl3 c0 c1 c2 c3 d0 d1 hlook hmx hmi
  go_wp2_with fail
  (try simp only [Exit.inBlock,Exit.then]);refine bodyPost_ret (results_none rfl _ _ _) rfl ?_
  exact ⟨rfl,BLW.out⟩
theorem sameKey_key {p q:Nat} (h:p ≠ q):(key p).sameKey (key q) = false:=by
  simp [key,Lit.sameKey];omega
structure WC (f f':Nat → Option Nat) (M M':Nat → Int) (q0 q1:Nat) (left:Lit → Bool):Prop where
  out:∀ x:Nat,(x < q0 * 4096 ∨ (q1 + 1) * 4096 ≤ x) → M' x = M x
  todo:∀ p,q0 ≤ p → p ≤ q1 → f' p ≠ none → left (key p) = true
end Go.Proofs.YtbngjbmfkekdnaaGreatDoor

namespace Go.Proofs.YtbngjbmfkekdnaaGreatDoor
open Go.RowKit
set_option maxRecDepth 100000
theorem clear_wide {Y:Rest} {S:Nat → Prop} {w:World} {sb n k:Nat} {f:Nat → Option Nat} {M st:Nat → Int} (h:StoreAt Y S w sb n f k M st) (q0 q1:Nat) (h01:q0 + 4096 ≤ q1) (hq1:q1 < 67108864) (hn:n < 80000000) (hS:∀ b,w.heap.size ≤ b → S b) :
    Calls Tryz.prog 43 #[.pointer (some ⟨sb,1,none⟩),.int .u64 ((q0 * 4096:Nat):Int),.int .u64 (((q1 + 1) * 4096:Nat):Int)] w fun e w'=>e = .returned (.tuple #[])∧(∃ f' k' st',StoreAt Y S w' sb (n + 8192) f' k' (wiped M (q0 * 4096) ((q1 + 1) * 4096)) st'∧Rise st st' (fun p=>q0 ≤ p∧p ≤ q1))∧Fr S w w':=by
  obtain ⟨a,ha⟩:∃ a,a = q0 * 4096:=⟨_,rfl⟩
  obtain ⟨b,hb⟩:∃ b,b = (q1 + 1) * 4096:=⟨_,rfl⟩
  have cw:=fun W=>pwithin_in (a:Int) (b:Int) W (by omega)
  have ce:=fun W=>empty_any (a:Int) (b:Int) W
  rw [decide_eq_false (by omega)] at ce
  have cwi:=fun W=>wide_i (a:Int) (b:Int) W (by omega) (by omega) (by omega)
  rw [decide_eq_true (by omega)] at cwi
  have cst:=fun (W:World) (S':Nat → Prop) (hW:StoreAt Y S' W sb n f k M st)=>stampAll_wide hW (a:Int) (b:Int) (by omega) (by omega) (by omega) (by omega) (by omega)
  have cwp:=fun (W:World) (S':Nat → Prop) (k' pb:Nat) (f':Nat → Option Nat) (M' st':Nat → Int) (sm:Value) (c l:Int) (hW:SA Y S' W sb (n + 1) f' k' M' st' (.map (some pb)) sm c l) (num bb:Nat) (h1:f' num = some bb) (h2:q0 ≤ num) (h3:num ≤ q1)=>wipe_some hW num bb (hW.lim num bb h1) (a:Int) (b:Int) (by omega) (by omega) (by omega) (by omega) h1
  have cwo:=fun (W:World) (S':Nat → Prop) (k' pb:Nat) (f':Nat → Option Nat) (M' st':Nat → Int) (sm:Value) (c l:Int) (hW:SA Y S' W sb (n + 1) f' k' M' st' (.map (some pb)) sm c l) (num bb:Nat) (h1:f' num = some bb) (h2:num < q0 ∨ q1 < num)=>wipe_out hW num bb (hW.lim num bb h1) (a:Int) (b:Int) (by omega) (by omega) (by omega) (by omega) h1
  rw [← ha,← hb]
  have HA:=hid ha;clear ha
  have HBB:=hid hb;clear hb
  have HH:=hid h;clear h
  have HS:=hid hS;clear hS
  have CW:=hid cw;clear cw
  have CE:=hid ce;clear ce
  have CWI:=hid cwi;clear cwi
  have CST:=hid cst;clear cst
  have CWP:=hid cwp;clear cwp
  have CWO:=hid cwo;clear cwo
  generalize (a:Int) = A at *
  generalize (b:Int) = B0 at *
  unfold span at *
  go_enter Tryz.func43,Tryz.ntmps43
  go_wp2_with fail
  refine (CW.out _).mono ?_
  rintro e w1 ⟨rfl,bl1⟩
  have h1:StoreAt Y (less S w1.heap.size) (w1.alloc (box48 A B0)) sb n f k M st:=(HH.out.bl bl1).less _
  have hS1:∀ b,w1.heap.size ≤ b → S b:=fun b hb=>HS.out b (Nat.le_trans bl1.size hb)
  have fr1:Fr (less S w1.heap.size) (w1.alloc (box48 A B0)) (w1.alloc (box48 A B0)):=Fr.refl _ _
  have FR1:=hid fr1;clear fr1
  have H1:=hid h1;clear h1
  have HS1:=hid hS1;clear hS1
  have BL1:=hid bl1;clear bl1
  go_wp2_with fail
  refine (CE.out _).mono ?_
  rintro e w2 ⟨rfl,bl2⟩
  have fr2:=FR1.out.trans (Fr.of_bl bl2)
  have h2:=H1.out.bl bl2
  obtain ⟨c0,c1⟩:=two_cells (box_at fr2)
  have FR2:=hid fr2;clear fr2 FR1 bl2
  have H2:=hid h2;clear h2 H1
  go_wp2_with fail
  refine (CST.out _ _ H2.out).mono ?_
  rintro e w3 ⟨rfl,⟨st',h3,hris⟩,fr3⟩
  have HRIS:Hid (Rise st st' (fun p=>q0 ≤ p∧p ≤ q1)):=hid (hris.mono fun _ _=>trivial);clear hris
  have fr3':=FR2.out.trans fr3
  clear c0 c1
  obtain ⟨c0,c1⟩:=two_cells (box_at fr3')
  have FR3:=hid fr3';clear fr3' fr3 FR2
  have H3:=hid h3;clear h3 H2
  go_wp2_with fail
  refine (CWI.out _).mono ?_
  rintro e w4 ⟨rfl,bl4⟩
  have fr4:=FR3.out.trans (Fr.of_bl bl4)
  have h4:=H3.out.bl bl4
  clear c0 c1
  have FR4:=hid fr4;clear fr4 FR3 bl4
  obtain ⟨pm,sm,c,l,h4⟩:=h4
  obtain ⟨c0,c1,c2,c3⟩:=h4.cell
  clear H3
  have hpg:=h4.pages
  rcases hpg with ⟨rfl,hpn,_⟩ | ⟨B,rfl,_,_⟩
  · have hfin:StoreAt Y S w4 sb (n + 8192) f k (wiped M (q0 * 4096) ((q1 + 1) * 4096)) st':=by
      have e2:wiped M (q0 * 4096) ((q1 + 1) * 4096) = M:=by
        funext x
        simp only [wiped]
        split
        · rename_i hxx
          have h9:=h4.zero (x / 4096) (x % 4096) (hpn _) (by omega)
          rw [show x / 4096 * 4096 + x % 4096 = x by omega] at h9
          exact h9.symm
        · rfl
      rw [e2]
      exact StoreAt.mono ⟨_,_,_,_,h4.among (T:=S) (fun _ _ e=>e.1)⟩ (by omega)
    have HFIN:=hid hfin;clear hfin
    have hrg:=run_range_nilMap (P:=Tryz.prog) w4 60 29 103 Tryz.underlying60
    have hnx:∀ ty,(Instr.next (.pointer (some ⟨w4.heap.size,0,none⟩)) false ty).run Tryz.prog (w4.alloc (.mapIter none 0 #[] 0)) = _:=fun ty=>run_next_nilMap w4 ty 0 0 #[]
    clear h4
    go_wp2_with fail
    refine wp_loop_rounds 1 ?_
    rw [rounds_succ]
    go_wp2_with fail
    (try simp only [Exit.inBlock,Exit.then]);refine bodyPost_ret (results_none rfl _ _ _) rfl ?_
    exact ⟨rfl,⟨f,k,st',(by rw [HA.out,HBB.out];exact HFIN.out.bl (Bl.new _ _)),HRIS.out⟩,((Fr.of_bl BL1.out).trans FR4.out.unless).trans (Fr.of_bl (Bl.new _ _))⟩
  · have H4:=hid h4
    obtain ⟨D0,hown,_⟩:=h4.pm
    have HOWN:=hid hown;clear hown h4
    go_wp2_with (first
      | (at_range;refine wpList_range_own _ rfl _ 60 rfl 29 103 law27 Tryz.underlying60 _ B (n + 1) _ rfl HOWN.out ?_;intro w5 hrg0 hg0 hs0)
      | go_in)
    go_frame
    clear c0 c1 c2 c3
    have hlt1:w1.heap.size < w4.heap.size:=by have:=FR4.out.size;simp at this;omega
    have bl5:=Bl.of_grown hg0
    have h5:SA Y (less (less S w1.heap.size) w4.heap.size) w5 sb (n + 1) f k M st' (.map (some B)) sm c l:=(H4.out.among (T:=less (less S w1.heap.size) w4.heap.size) (fun b hb hs=>⟨hs,by omega⟩)).bl bl5
    have fr5:=FR4.out.trans (Fr.of_bl bl5)
    have hr:less S w1.heap.size w4.heap.size:=⟨HS1.out _ (by omega),by omega⟩
    clear hg0 hs0 bl5
    have hwc0:WC f f M M q0 q1 (fun z=>Maps.has D0 z):=⟨fun _ _=>rfl,fun p _ _ hp=>by
      obtain ⟨E,e1,e2,e3,_⟩:=H4.out.pm
      obtain rfl:=ownsMap_fun HOWN.out e1
      show Maps.has D0 (key p) = true
      rw [e3 p (by omega)]
      rcases hfp:f p with _ | z
      · exact absurd hfp hp
      · rfl⟩
    have HWC0:=hid hwc0;clear hwc0
    have HRG0:=hid hrg0;clear hrg0
    have H5:=hid h5;clear h5
    have FR5:=hid fr5;clear fr5
    have HR:=hid hr;clear hr
    go_loopw [7] (fun _ wr=>∃ (left:Lit → Bool) (cnt:Nat) (D:DataW Nat) (f':Nat → Option Nat) (k':Nat) (M':Nat → Int),wr.ranges Tryz.prog 29 ptrE B w4.heap.size (n + 1) D left cnt∧SA Y (less (less S w1.heap.size) w4.heap.size) wr sb (n + 1) f' k' M' st' (.map (some B)) sm c l∧WC f f' M M' q0 q1 left∧Fr (less S w1.heap.size) (w1.alloc (box48 A B0)) wr) (fun _ wr=>wr.rangeLeft B w4.heap.size)
    case atStart=>exact ⟨_,_,_,_,_,_,HRG0.out,H5.out,HWC0.out,FR5.out⟩
    case round =>
      obtain ⟨left,cnt,D,f',k',M',hrg,hsa,hwc,hfr⟩:=hrel
      have HWC:=hid hwc;clear hwc
      clear H5 FR5 HRG0 HWC0 H4 FR4 HOWN
      have HRG:=hid hrg;clear hrg
      have HSA:=hid hsa;clear hsa
      have HFR:=hid hfr;clear hfr
      go_wp2_with (first
        | (at_next;refine wpl_next_pages _ rfl _ rfl B w4.heap.size (n + 1) _ _ _ rfl HRG.out ?_ ?_)
        | go_in)
      · intro _ hleft
        have hfin:StoreAt Y S wr sb (n + 8192) f' k' (wiped M (q0 * 4096) ((q1 + 1) * 4096)) st':=by
          have e2:wiped M (q0 * 4096) ((q1 + 1) * 4096) = M':=by
            funext x
            simp only [wiped]
            split
            · have hf0:f' (x / 4096) = none:=by
                rcases hfp:f' (x / 4096) with _ | z
                · rfl
                · have h9:=HWC.out.todo (x / 4096) (by omega) (by omega) (by rw [hfp];simp)
                  rw [hleft] at h9
                  cases h9
              have h9:=HSA.out.zero (x / 4096) (x % 4096) hf0 (by omega)
              rw [show x / 4096 * 4096 + x % 4096 = x by omega] at h9
              exact h9.symm
            · exact (HWC.out.out x (by omega)).symm
          rw [e2]
          exact StoreAt.mono ⟨_,_,_,_,HSA.out.among (T:=S) (fun _ _ e=>e.1.1)⟩ (by omega)
        have HFIN:=hid hfin;clear hfin hleft
        go_wp2_with fail
        (try simp only [Exit.inBlock,Exit.then]);refine bodyPost_ret (results_none rfl _ _ _) rfl ?_
        exact ⟨rfl,⟨f',k',st',(by rw [HA.out,HBB.out];exact HFIN.out),HRIS.out⟩,(Fr.of_bl BL1.out).trans HFR.out.unless⟩
      · intro p x w6 cnt1 hp hlx hat hrg1 hcl hg1 hs1 hen
        have hsa6:SA Y (less (less S w1.heap.size) w4.heap.size) w6 sb (n + 1) f' k' M' st' (.map (some B)) sm c l:=HSA.out.kept (T:=fun b=>b = w4.heap.size) (Fr.grown hg1 (fun k hk=>by cases hk;rfl)) (fun b hb e=>hb.2 e)
        have fr6:=HFR.out.trans (Fr.grown hg1 (fun k hk=>by cases hk;exact HR.out))
        obtain ⟨b,rfl,hfb⟩:=hsa6.pm.step hrg1.owns hp hat
        obtain ⟨c0,c1⟩:=two_cells (box_at fr6)
        have HSA6:=hid hsa6;clear hsa6
        have FR6:=hid fr6;clear fr6
        have HRG1:=hid hrg1;clear hrg1
        have HFB:=hid hfb;clear hfb
        have HP:=hid hp;clear hp
        clear hg1 hs1 hat hlx
        simp only [ptrOf,Option.map_some] at hen ⊢
        by_cases hin:q0 ≤ p∧p ≤ q1
        · go_wp2_with fail
          refine (CWP.out _ _ _ _ _ _ _ _ _ _ HSA6.out p b HFB.out hin.1 hin.2).mono ?_
          rintro e w7 ⟨rfl,w8,bl8,hdel⟩
          obtain ⟨w9,cnt2,hrun,hrg2,hle,_⟩:=(HRG1.out.kept (bl8.grownBy none) (by simp) (by simp)).drop law27 Tryz.underlying60 (key_of HP.out) 0
          rw [hdel] at hrun
          injection hrun with _ e9
          subst e9
          obtain ⟨k9,hsa9,_,fr9⟩:=(HSA6.out.bl bl8).del HP.out hdel
          have fr10:=FR6.out.trans ((Fr.of_bl bl8).trans (fr9.mono fun _ _ e=>e.1))
          have hlt9:cnt2 < cnt:=by omega
          clear hdel hle hcl hen c0 c1 bl8 fr9
          have hwc9:WC f (put1 f' p none) M (wiped M' (p * 4096) (p * 4096 + 4096)) q0 q1 (fun z=>left z && !z.sameKey (key p) && !z.sameKey (key p)):=⟨fun x hx=>by
            simp only [wiped]
            rw [if_neg (by omega)]
            exact HWC.out.out x hx,fun q hq0 hq1 hne=>by
            by_cases e:q = p
            · subst e;rw [put1_same] at hne;exact absurd rfl hne
            · rw [put1_other _ _ _ e] at hne
              show (left (key q) && !(key q).sameKey (key p) && !(key q).sameKey (key p)) = true
              rw [HWC.out.todo q hq0 hq1 hne,sameKey_key e];rfl⟩
          have HWC9:=hid hwc9;clear hwc9
          have HRG2:=hid hrg2;clear hrg2
          have HSA9:=hid hsa9;clear hsa9
          have FR10:=hid fr10;clear fr10
          go_wp2_with fail
          refine ⟨⟨_,_,_,_,_,_,HRG2.out,HSA9.out,HWC9.out,FR10.out⟩,?_⟩
          rw [HRG2.out.left_eq,HRG.out.left_eq]
          exact hlt9
        · go_wp2_with fail
          refine (CWO.out _ _ _ _ _ _ _ _ _ _ HSA6.out p b HFB.out (by omega)).mono ?_
          rintro e w7 ⟨rfl,bl8⟩
          have hrg2:=HRG1.out.kept (bl8.grownBy none) (by simp) (by simp)
          have hsa9:=HSA6.out.bl bl8
          have fr10:=FR6.out.trans (Fr.of_bl bl8)
          have hwc9:WC f f' M M' q0 q1 (fun z=>left z && !z.sameKey (key p)):=⟨HWC.out.out,fun q hq0 hq1 hne=>by
            show (left (key q) && !(key q).sameKey (key p)) = true
            rw [HWC.out.todo q hq0 hq1 hne,sameKey_key (by omega)];rfl⟩
          have HWC9:=hid hwc9;clear hwc9
          clear hen c0 c1 bl8
          have HRG2:=hid hrg2;clear hrg2
          have HSA9:=hid hsa9;clear hsa9
          have FR10:=hid fr10;clear fr10
          go_wp2_with fail
          refine ⟨⟨_,_,_,_,_,_,HRG2.out,HSA9.out,HWC9.out,FR10.out⟩,?_⟩
          rw [HRG2.out.left_eq,HRG.out.left_eq]
          exact hcl
end Go.Proofs.YtbngjbmfkekdnaaGreatDoor

namespace Go.Proofs.YtbngjbmfkekdnaaGreatDoor
open Go.RowKit
set_option maxRecDepth 100000
theorem mclear_all {T:Nat → Prop} {w:World} {sb n:Nat} {L:List Rg} {M st:Nat → Int} {mo ba en:Int} (h:MS T w sb n L M st mo ba en) (a b:Nat) (ha:a % 4096 = 0) (hb:b % 4096 = 0) (hab:a < b) (hbt:b ≤ 274877906944) (hn:n < 80000000) (hT:∀ b,w.heap.size ≤ b → T b) :
    Calls Tryz.prog 43 #[.pointer (some ⟨sb,1,none⟩),.int .u64 (a:Int),.int .u64 (b:Int)] w fun e w'=>e = .returned (.tuple #[])∧ClearPost T w sb n L M st mo ba en a b w':=by
  by_cases hnar:b - a ≤ 16777216
  · exact mclear_any h a b ha hb hab hbt hnar hn hT
  · obtain ⟨rg,f,k0,h1,h2,h3⟩:=h.ex
    have cc:=clear_wide h1 (a / 4096) (b / 4096 - 1) (by omega) (by omega) hn (off_new h2 hT)
    rw [show a / 4096 * 4096 = a by omega,show (b / 4096 - 1 + 1) * 4096 = b by omega] at cc
    refine cc.mono ?_
    rintro e w' ⟨rfl,⟨f',k',st',h4,hr⟩,hf⟩
    exact ⟨rfl,st',h.stored h2 h3 h4 hf (wiped_bd h.by_ a b),hr.mono fun p hp=>by omega,hf.off_of⟩
theorem clears_all {T:Nat → Prop} {w:World} {sb n:Nat} {M st:Nat → Int} {mo ba en:Int} (a b:Nat) (hn:n < 80000000) (hT:∀ b,w.heap.size ≤ b → T b):Clears T w sb n M st mo ba en a b:=
  fun W L' q1 q2 q3 q4 q5 q6=>mclear_all q6 a b q1 q2 q3 q4 hn (fun b hb=>hT b (Nat.le_trans q5 hb))
def Step (L L':List Rg) (M M' st st':Nat → Int):Prop:=∀ p,p < 2 ^ 64 → st p ≤ st' p∧(((∃ x:Nat,x / 4096 = p∧M' x ≠ M x) ∨ (∃ q,¬ (In L ((p:Int) * 4096) q ↔ In L' ((p:Int) * 4096) q))) → st p < st' p)
theorem Step.refl (L:List Rg) (M st:Nat → Int):Step L L M M st st:=fun p _=>⟨Int.le_refl _,fun h=>by
  rcases h with ⟨x,_,hx⟩ | ⟨q,hq⟩
  · exact absurd rfl hx
  · exact absurd Iff.rfl hq⟩
theorem Step.bytes {L:List Rg} {M M' st st':Nat → Int} (h:Rise st st' (fun p=>∃ x:Nat,x / 4096 = p∧M' x ≠ M x)):Step L L M M' st st':=fun p hp=>⟨(h p hp).1,fun e=>by
  rcases e with e | ⟨q,hq⟩
  · exact (h p hp).2 e
  · exact absurd Iff.rfl hq⟩
section
variable {T:Nat → Prop} {w w':World} {sb n:Nat} {L:List Rg} {M st:Nat → Int} {mo ba en:Int}
end
end Go.Proofs.YtbngjbmfkekdnaaGreatDoor

namespace Go.Proofs.YtbngjbmfkekdnaaGreatDoor
open Go.RowKit
theorem u8_in {a:Int} (h:(Lit.int .u8 a).wf = true):0 ≤ a∧a ≤ 255:=by
  have h4:(decide ((0:Int) ≤ a) && decide (a ≤ 255)) = true:=h
  simpa only [Bool.and_eq_true,decide_eq_true_eq] using h4
theorem u32_in {a:Int} (h:(Lit.int .u32 a).wf = true):0 ≤ a∧a ≤ 4294967295:=by
  have h4:(decide ((0:Int) ≤ a) && decide (a ≤ 4294967295)) = true:=h
  simpa only [Bool.and_eq_true,decide_eq_true_eq] using h4
theorem u64_wf {a:Int} (h:(Lit.int .u64 a).wf = true):0 ≤ a∧a ≤ 18446744073709551615:=by
  have h4:(decide ((0:Int) ≤ a) && decide (a ≤ 18446744073709551615)) = true:=h
  simpa only [Bool.and_eq_true,decide_eq_true_eq] using h4
end Go.Proofs.YtbngjbmfkekdnaaGreatDoor

namespace Go.Proofs.YtbngjbmfkekdnaaGreatDoor
open Go.RowKit
set_option maxRecDepth 100000
end Go.Proofs.YtbngjbmfkekdnaaGreatDoor

namespace Go.Proofs.YtbngjbmfkekdnaaGreatDoor
open Go.RowKit
set_option maxRecDepth 100000
structure HI (L:List Rg) (M:Nat → Int) (en at_:Int):Prop where
  rs:Rs L
  pl:∀ x q,In L x q ↔ q = 3∧((8192 ≤ x∧x < (en + 4095) / 4096 * 4096) ∨ (at_ ≤ x∧x < at_ + 4096))
  zero:∀ x:Nat,(x:Int) < at_ → M x = 0
  e0:8192 ≤ en
  e1:(en + 4095) / 4096 * 4096 ≤ at_
  a0:at_ % 4096 = 0
  a1:at_ ≤ 126976
end Go.Proofs.YtbngjbmfkekdnaaGreatDoor

namespace Go.Proofs.YtbngjbmfkekdnaaGreatDoor
open Go.RowKit
set_option maxRecDepth 100000
theorem bit_all:∀ n:Fin 256,((bits .and .i64 ((n.val:Int) % 8) 2 = 2) ↔ (bits .and .u8 (n.val:Int) 2 != 0) = true)∧((bits .and .i64 ((n.val:Int) % 8) 1 = 1) ↔ (bits .and .u8 (n.val:Int) 1 != 0) = true):=by decide +kernel
theorem bit2 (c:Int) (h0:0 ≤ c) (h1:c ≤ 255):(bits .and .i64 (c % 8) 2 = 2) ↔ (bits .and .u8 c 2 != 0) = true:=by
  obtain ⟨n,rfl⟩:=Int.eq_ofNat_of_zero_le h0
  exact (bit_all ⟨n,by omega⟩).1
end Go.Proofs.YtbngjbmfkekdnaaGreatDoor
