/-
  A space and the reference's space, side by side.
  Acts that came in: where their cells stand, and what their bytes read as.
-/
import Derived.Test.YtbngjbmfkekdnaaGreatDoorT9
import Derived.Test.YtbngjbmfkekdnaaGreatDoorT10
import Derived.Test.YtbngjbmfkekdnaaGreatDoorT5
import Derived.Deep.Slices
import Derived.ChangeSame
import Derived.Lib.Hide
set_option linter.unusedVariables false
set_option linter.unusedSimpArgs false
set_option maxHeartbeats 16000000
open Go.Lib (hid)
namespace Go.Proofs.YtbngjbmfkekdnaaGreatDoor
open Go.RowKit
set_option maxRecDepth 100000
structure Two (K:Nat → Prop) (w:World) (sb rb n:Nat) (L:List Rg) (M st:Nat → Int) (mo ba en:Int) (L2:List Rg) (M2:Nat → Int):Prop where
  ex:∃ T1 T2 P,MS T1 w sb n L M st mo ba en∧RP T2 w rb P M2 mo ba en∧regs P = L2∧(∀ b,b < w.heap.size → T1 b → ¬ T2 b)∧(∀ b,K b → ¬ T1 b∧¬ T2 b)∧∀ b,w.heap.size ≤ b → T1 b∧T2 b
section
variable {K:Nat → Prop} {w w':World} {sb rb n:Nat} {L L2:List Rg} {M st M2:Nat → Int} {mo ba en:Int}
theorem Two.less (h:Two K w sb rb n L M st mo ba en L2 M2) {J:Nat → Prop} (hJ:∀ b,J b → K b):Two J w sb rb n L M st mo ba en L2 M2:=by
  obtain ⟨T1,T2,P,h1,h2,h3,h4,h5,h6⟩:=h.ex
  exact ⟨T1,T2,P,h1,h2,h3,h4,fun b hb=>h5 b (hJ b hb),h6⟩
theorem Two.bl (h:Two K w sb rb n L M st mo ba en L2 M2) (k:Bl w w'):Two (fun b=>K b ∨ (w.heap.size ≤ b∧b < w'.heap.size)) w' sb rb n L M st mo ba en L2 M2:=by
  obtain ⟨T1,T2,P,h1,h2,h3,h4,h5,h6⟩:=h.ex
  have hs:=k.size
  refine ⟨fun b=>T1 b∧(b < w.heap.size ∨ w'.heap.size ≤ b),fun b=>T2 b∧(b < w.heap.size ∨ w'.heap.size ≤ b),P,(h1.among fun b hb hT=>⟨hT,.inl hb⟩).bl k,(h2.among fun b hb hT=>⟨hT,.inl hb⟩).bl k,h3,fun b hb e1 e2=>?_,fun b hb=>?_,fun b hb=>?_⟩
  · rcases e1.2 with h7 | h7
    · exact h4 b h7 e1.1 e2.1
    · omega
  · rcases hb with hb | hb
    · exact ⟨fun e=>(h5 b hb).1 e.1,fun e=>(h5 b hb).2 e.1⟩
    · exact ⟨fun e=>by rcases e.2 with h7 | h7 <;> omega,fun e=>by rcases e.2 with h7 | h7 <;> omega⟩
  · exact ⟨⟨(h6 b (by omega)).1,.inr hb⟩,⟨(h6 b (by omega)).2,.inr hb⟩⟩
theorem Two.call1 (h:Two K w sb rb n L M st mo ba en L2 M2):∃ T1,MS T1 w sb n L M st mo ba en∧(∀ b,w.heap.size ≤ b → T1 b)∧∀ w' n' L' M' st' mo' ba' en',mo' = mo → ba' = ba → en' = en → MS T1 w' sb n' L' M' st' mo' ba' en' → Fr T1 w w' → Two K w' sb rb n' L' M' st' mo ba en L2 M2∧Fr (fun b=>¬ K b) w w':=by
  obtain ⟨T1,T2,P,h1,h2,h3,h4,h5,h6⟩:=h.ex
  refine ⟨T1,h1,fun b hb=>(h6 b hb).1,fun w' n' L' M' st' mo' ba' en' e1 e2 e3 hm hf=>⟨?_,hf.mono fun b _ hT e=>(h5 b e).1 hT⟩⟩
  subst e1 e2 e3
  have hs:=hf.size
  refine ⟨T1,fun b=>T2 b∧(b < w.heap.size ∨ w'.heap.size ≤ b),P,hm,(h2.among fun b hb hT=>⟨hT,.inl hb⟩).kept hf (fun b hb e e2=>h4 b hb e2 e.1),h3,fun b hb e1 e2=>?_,fun b hb=>⟨(h5 b hb).1,fun e=>(h5 b hb).2 e.1⟩,fun b hb=>⟨(h6 b (by omega)).1,⟨(h6 b (by omega)).2,.inr hb⟩⟩⟩
  rcases e2.2 with h7 | h7
  · exact h4 b h7 e1 e2.1
  · omega
theorem Two.call2 (h:Two K w sb rb n L M st mo ba en L2 M2):∃ T2 P,RP T2 w rb P M2 mo ba en∧regs P = L2∧(∀ b,w.heap.size ≤ b → T2 b)∧∀ w' P' M2',RP T2 w' rb P' M2' mo ba en → Fr T2 w w' → Two K w' sb rb n L M st mo ba en (regs P') M2'∧Fr (fun b=>¬ K b) w w':=by
  obtain ⟨T1,T2,P,h1,h2,h3,h4,h5,h6⟩:=h.ex
  refine ⟨T2,P,h2,h3,fun b hb=>(h6 b hb).2,fun w' P' M2' hm hf=>⟨?_,hf.mono fun b _ hT e=>(h5 b e).2 hT⟩⟩
  have hs:=hf.size
  have g1:MS (fun b=>T1 b∧(b < w.heap.size ∨ w'.heap.size ≤ b)) w' sb n L M st mo ba en:=by
    have g:=h1.among (U:=fun b=>T1 b∧b < w.heap.size) fun b hb hT=>⟨hT,hb⟩
    have g2:=g.kept hf (fun b e e2=>h4 b e.2 e.1 e2)
    exact g2.among fun b hb e=>⟨e.1,.inl e.2⟩
  refine ⟨fun b=>T1 b∧(b < w.heap.size ∨ w'.heap.size ≤ b),T2,P',g1,hm,rfl,fun b hb e1 e2=>?_,fun b hb=>⟨fun e=>(h5 b hb).1 e.1,(h5 b hb).2⟩,fun b hb=>⟨⟨(h6 b (by omega)).1,.inr hb⟩,(h6 b (by omega)).2⟩⟩
  rcases e1.2 with h7 | h7
  · exact h4 b h7 e1.1 e2
  · omega
end
end Go.Proofs.YtbngjbmfkekdnaaGreatDoor

namespace Go.Proofs.YtbngjbmfkekdnaaGreatDoor
open Go.RowKit Go.ChangeShapes Go.WideShapes Go.Deep
set_option maxRecDepth 100000
structure BytesIn (w:World) (A:Option Addr) (l c:Nat) (xs:List Int):Prop where
  rd:Rd w A xs
  len:xs.length = l
  cap:l ≤ c
  nil:A = none → c = 0
  bd:∀ k,0 ≤ xs.getD k 0∧xs.getD k 0 ≤ 255
  lt:0 < l → ∀ ad,A = some ad → ad.block < w.heap.size
  le:l ≤ 9223372036854775807
theorem BytesIn.bl {w w':World} {A:Option Addr} {l c:Nat} {xs:List Int} (h:BytesIn w A l c xs) (k:Bl w w'):BytesIn w' A l c xs:=
  ⟨h.rd.below k,h.len,h.cap,h.nil,h.bd,fun h0 ad e=>Nat.lt_of_lt_of_le (h.lt h0 ad e) k.size,h.le⟩
theorem open_bytesIn {H:Type} {enc:TypeId × Value → H} {w:World} {base:Nat} {spare:Nat → Bool} {held:Bool} {fuel:Nat} {v:Value} {x:DataW H × List MemPlace} (h:DataW.trod enc Tryz.prog w base spare held fuel 22 [v] = some x) :
    ∃ A l c xs,v = .slice A l c∧BytesIn w A l c xs:=by
  rcases open_slice Tryz.underlying22 h with ⟨h1,_⟩ | ⟨ad,l,c,m,n,D,Pl,h1,h2,h3,h4,h5,h6,h7⟩
  · injection h1 with h1
    subst h1
    exact ⟨none,0,0,[],rfl,Rd.nil_,rfl,Nat.le_refl _,fun _=>rfl,fun k=>by simp,fun h=>absurd h (by omega),by omega⟩
  · injection h1 with h1
    subst h1
    have hc5:Tryz.prog.cellsOf 5 = 1:=by kernel_rfl
    have hm:l ≤ m:=by rw [h5];split <;> omega
    have key:∀ k,k < l → ∃ y:Int,w.cell? (ad.add k) = some (.int .u8 y)∧0 ≤ y∧y ≤ 255:=fun k hk=>by
      obtain ⟨cs,hcs,hts⟩:=h7 k (by omega)
      rw [hc5,Nat.mul_one] at hcs
      obtain ⟨hlen,_,hat⟩:=World.cells?_some hcs
      match cs,hlen with
      | [u],_ =>
        obtain ⟨y,e0,hw⟩:=DataW.trod_int Tryz.underlying5 hts
        cases e0
        have h8:=hat 0 (by omega)
        refine ⟨y,by simpa [show (ad.add k).add 0 = ad.add k from rfl] using h8,?_⟩
        exact u8_in (hw.2)
    have hch:∃ f:Nat → Int,∀ k,k < l → w.cell? (ad.add k) = some (.int .u8 (f k))∧0 ≤ f k∧f k ≤ 255:=by
      refine ⟨fun k=>if hk:k < l then Classical.choose (key k hk) else 0,fun k hk=>?_⟩
      simp only [dif_pos hk]
      exact Classical.choose_spec (key k hk)
    obtain ⟨f,hf⟩:=hch
    refine ⟨some ad,l,c,(List.range l).map f,rfl,fun _=>⟨ad,rfl,fun i hi=>?_⟩,by simp,h3,(fun e=>by cases e),fun k=>?_,fun h0 ad' e=>?_,by simp only [maxLen] at h4;omega⟩
    · have hi2:i < l:=by simpa using hi
      rw [(hf i hi2).1]
      simp [List.getD,hi2]
    · by_cases hk:k < l
      · have:=hf k hk
        simp [List.getD,hk,this.2]
      · simp [List.getD,hk]
    · cases e
      have h1:=block_lt_of_cell (hf 0 h0).1
      rwa [add_block] at h1
end Go.Proofs.YtbngjbmfkekdnaaGreatDoor
