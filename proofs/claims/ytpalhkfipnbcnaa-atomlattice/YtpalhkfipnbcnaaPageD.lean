/-
  Write: bytes laid at a place, page by page.
-/
import Derived.Test.YtpalhkfipnbcnaaPageC
set_option linter.unusedVariables false
set_option linter.unusedSimpArgs false
namespace Go.Proofs.Ytpalhkfipnbcnaa
open Go.RowKit
set_option maxRecDepth 100000

/-- How many of m pages from a on are not held. -/
def cnt (f : Nat → Option Nat) (a : Nat) : Nat → Nat
  | 0 => 0
  | m + 1 => cnt f a m + (if (f (a + m)).isSome then 0 else 1)
/-- m pages from a on are held, k' in all. -/
structure Held (f f' : Nat → Option Nat) (k k' a m : Nat) : Prop where
  some_ : ∀ p, (f' p).isSome = ((f p).isSome || decide (a ≤ p ∧ p < a + m))
  count : k' = k + cnt f a m
theorem Held.none_ (f : Nat → Option Nat) (k a : Nat) : Held f f k k a 0 := ⟨fun p => by rw [decide_eq_false (by omega)]; simp, rfl⟩
theorem Held.next {f g : Nat → Option Nat} {k k1 a j : Nat} (h : Held f g k k1 a j) (b : Nat) : Held f (hf g (a + j) b) k (hk g (a + j) k1) a (j + 1) := by
  have hs : (g (a + j)).isSome = (f (a + j)).isSome := by rw [h.some_]; rw [decide_eq_false (by omega)]; simp
  refine ⟨fun p => ?_, ?_⟩
  · unfold hf
    by_cases e : p = a + j
    · subst e
      rw [decide_eq_true (by omega)]
      rcases hc : (g (a + j)).isSome with _ | _
      · simp [put1_same]
      · simp [hc]
    · have : decide (a ≤ p ∧ p < a + (j + 1)) = decide (a ≤ p ∧ p < a + j) := by
        by_cases h1 : a ≤ p ∧ p < a + j
        · rw [decide_eq_true h1, decide_eq_true (by omega)]
        · rw [decide_eq_false h1, decide_eq_false (by omega)]
      rw [this, ← h.some_]
      split
      · rfl
      · rw [put1_other _ _ _ e]
  · unfold hk
    simp only [cnt]
    rw [hs, h.count]
    split <;> omega

/-- Bytes copied into a page. -/
theorem SA.copyRun {Y : Rest} {S : Nat → Prop} {w : World} {sb n k : Nat} {f : Nat → Option Nat} {M st : Nat → Int} {pm sm : Value} {c l : Int} (h : SA Y S w sb n f k M st pm sm c l) {num b off : Nat} (hb : f num = some b) (hoff : off < 4096)
    (A : Option Addr) (sLen sCap : Nat) (zs : List Int) (hr : Rd w A zs) (hl : zs.length = sLen) (h0 : 0 < sLen) (ty : TypeId) :
    ∃ (w' : World) (dn : Nat), dn = min sLen (4096 - off) ∧ (Builtin.copy_ #[30, 30] ty #[.slice (some ⟨b, off, none⟩) (4096 - off) (4096 - off), .slice A sLen sCap]).run Try.prog w = .ok (.int .i64 (dn : Int)) w' ∧
      SA Y S w' sb n f k (lay M (num * 4096 + off) (zs.take dn)) st pm sm c l ∧ Fr S w w' := by
  obtain ⟨ad, rfl, hc⟩ := hr (by omega)
  have hz : (zs.take (min sLen (4096 - off))).length = min sLen (4096 - off) := by rw [List.length_take, hl]; omega
  have hbb := (h.at_ num b hb).2
  have hrun := run_copy_row (P := Try.prog) w 30 30 ty 5 b off (4096 - off) (4096 - off) ad sLen sCap _ 115 (asBytes (zs.take (min sLen (4096 - off)))) Try.underlying30 sizeByte hbb (by rw [asBytes_length, hz]) (fun j v hj => by
    obtain ⟨h1, rfl⟩ := asBytes_get _ _ _ hj
    rw [hz] at h1
    rw [hc j (by omega), List.getD_eq_getElem?_getD, List.getD_eq_getElem?_getD, List.getElem?_take_of_lt h1]) (by rw [asBytes_length, hz, List.size_toArray, asBytes_length, pageOf_length]; omega) (bytes_one _)
  rw [asBytes_length, hz] at hrun
  refine ⟨_, _, rfl, hrun, h.write hb (by rw [hz]; omega) ?_ ?_, ?_⟩
  · exact ⟨rfl, rfl, rfl, by simp [World.setRow], fun x _ hne => setRow_other w b x _ (fun e => hne (by rw [e]))⟩
  · rw [setRow_heap w b _ _ 115 _ hbb]
    simp only [splice, asBytes, List.map_append, List.map_take, List.map_drop, hz, List.append_assoc]
  · exact ⟨rfl, rfl, rfl, by simp [World.setRow], fun x _ hne => setRow_other w b x _ (fun e => hne (by rw [e]; exact (h.at_ num b hb).1))⟩
theorem slice53 (b off : Nat) (h : off < 4096) (w : World) : (Instr.sliceAt 115 (.pointer (some ⟨b, 0, none⟩)) (some (.int .u64 (off : Int))) none none).run Try.prog w = .ok (.slice (some ⟨b, off, none⟩) (4096 - off) (4096 - off)) w := by
  obtain ⟨i0, hi0, hz0, hz1, hz2⟩ := info_parts infoByte
  have h1 : (0 : Int) ≤ (off : Int) ∧ (off : Int) ≤ ((4096 : Nat) : Int) := by omega
  have h2 : ¬ 4096 = off := by omega
  have hadd : (⟨b, 0, none⟩ : Addr).add off = ⟨b, off, none⟩ := by unfold Addr.add; split <;> simp_all
  simp [Instr.sliceAt, run_underlying Try.underlying115, Instr.sureAddr, Instr.sliceBounds, Instr.sliceBound, asIntOf, sizeOf, typeInfo, hi0, hz1, h1, h2, hadd, Result.andThen]
  rw [if_pos (by omega)]
  simp [h2, hadd]
def lenV : Value → Nat | .slice _ n _ => n | _ => 0
/-- How many pages the places from addr on, r of them, lie in. -/
def pagesOf (addr r : Nat) : Nat := if r = 0 then 0 else (addr + r - 1) / 4096 + 1 - addr / 4096
/-- What a Write leaves. -/
def WritePost (Y : Rest) (S : Nat → Prop) (w : World) (sb n : Nat) (f : Nat → Option Nat) (k : Nat) (M st : Nat → Int) (addr : Nat) (ys : List Int) (e : Ending) (w' : World) : Prop :=
  e = .returned (.tuple #[]) ∧ ∃ f' k' st', StoreAt Y S w' sb (n + 3 * pagesOf addr ys.length) f' k' (lay M addr ys) st' ∧ Fr S w w' ∧ Held f f' k k' (addr / 4096) (pagesOf addr ys.length) ∧ Rise st st' (fun p => addr / 4096 ≤ p ∧ p < addr / 4096 + pagesOf addr ys.length)
theorem Rd.fr {S : Nat → Prop} {w w' : World} {A : Option Addr} {xs : List Int} (h : Rd w A xs) (hf : Fr S w w') (hA : 0 < xs.length → ∀ ad, A = some ad → ¬ S ad.block) : Rd w' A xs := by
  intro h0
  obtain ⟨ad, rfl, hc⟩ := h h0
  refine ⟨ad, rfl, fun i hi => ?_⟩
  have h1 := hc i hi
  rw [World.cell?_of_block (w := w) (hf.block _ (block_lt_of_cell h1) (by rw [add_block]; exact hA h0 ad rfl))]
  exact h1
theorem Rd.take {w : World} {A : Option Addr} {xs : List Int} (h : Rd w A xs) (k : Nat) : Rd w A (xs.take k) := by
  intro h0
  rw [List.length_take] at h0
  obtain ⟨ad, rfl, hc⟩ := h (by omega)
  refine ⟨ad, rfl, fun i hi => ?_⟩
  rw [List.length_take] at hi
  rw [hc i (by omega), List.getD_eq_getElem?_getD, List.getD_eq_getElem?_getD, List.getElem?_take_of_lt (by omega)]
/-- Where a Write stands: j pages are done, t bytes. -/
structure WR (Y : Rest) (S : Nat → Prop) (w : World) (sb n : Nat) (f : Nat → Option Nat) (k : Nat) (M st : Nat → Int) (addr : Nat) (ys : List Int) (j t : Nat) (wr : World) (A : Option Addr) (cap : Nat) : Prop where
  le : t ≤ ys.length
  cap_ : ys.length - t ≤ cap
  rd : Rd wr A (ys.drop t)
  out : t < ys.length → ∀ ad, A = some ad → ¬ S ad.block
  at_ : ∃ f' k' st', StoreAt Y S wr sb (n + 3 * j) f' k' (lay M addr (ys.take t)) st' ∧ Held f f' k k' (addr / 4096) j ∧ Rise st st' (fun p => addr / 4096 ≤ p ∧ p < addr / 4096 + j)
  fr : Fr S w wr
  page : t < ys.length → (addr + t) / 4096 = addr / 4096 + j
  done : (t = 0 ∧ j = 0) ∨ (0 < t ∧ (addr + t - 1) / 4096 + 1 = addr / 4096 + j)
theorem WR.step {Y : Rest} {S : Nat → Prop} {w : World} {sb n k : Nat} {f : Nat → Option Nat} {M st : Nat → Int} {addr : Nat} {ys : List Int} {j t : Nat} {wr : World} {B : Option Addr} {cp : Nat} (h : WR Y S w sb n f k M st addr ys j t wr B cp) (hlt : t < ys.length)
    {f1 : Nat → Option Nat} {k1 : Nat} {st1 st2 : Nat → Int} (hris : Rise st st1 (fun p => addr / 4096 ≤ p ∧ p < addr / 4096 + j)) (hheld : Held f f1 k k1 (addr / 4096) j) {num off dn b : Nat} (hnum : num = (addr + t) / 4096) (hoff : off = (addr + t) % 4096) (hdn : dn = min (ys.length - t) (4096 - off)) {w3 : World}
    (hst : StoreAt Y S w3 sb (n + 3 * j + 1 + 2) (hf f1 num b) (hk f1 num k1) (lay (lay M addr (ys.take t)) (num * 4096 + off) ((ys.drop t).take dn)) st2) (hris2 : Rise st1 st2 (fun p => p = num)) (fr : Fr S wr w3) :
    WR Y S w sb n f k M st addr ys (j + 1) (t + dn) w3 (if cp = dn then B else B.map (·.add dn)) (cp - dn) := by
  have hpage := h.page hlt
  have hcap := h.cap_
  have hle := h.le
  have hd0 : 0 < dn := by omega
  have hd1 : dn ≤ ys.length - t := by omega
  refine ⟨by omega, by omega, ?_, ?_, ⟨hf f1 num b, hk f1 num k1, st2, ?_, ?_, ?_⟩, h.fr.trans fr, fun hx => ?_, .inr ⟨by omega, ?_⟩⟩
  · have h1 := (h.rd.fr fr (fun h0 => h.out hlt)).drop dn cp (by rw [List.length_drop]; omega) (by rw [List.length_drop]; omega)
    rw [List.drop_drop] at h1
    exact h1
  · intro _ ad had
    split at had
    · exact h.out hlt ad had
    · rcases B with _ | a0
      · cases had
      · simp only [Option.map_some, Option.some.injEq] at had
        subst had
        rw [add_block]
        exact h.out hlt a0 rfl
  · have e1 : lay (lay M addr (ys.take t)) (num * 4096 + off) ((ys.drop t).take dn) = lay M addr (ys.take (t + dn)) := by
      have e2 : num * 4096 + off = addr + (ys.take t).length := by rw [List.length_take]; omega
      rw [e2, lay_lay, List.take_add]
    rw [e1] at hst
    exact hst.mono (by omega)
  · have e3 : num = addr / 4096 + j := by omega
    rw [e3]
    exact hheld.next b
  · exact (hris.trans hris2).mono fun p hp => by
      by_cases e : p = num
      · exact .inr e
      · exact .inl (by omega)
  · omega
  · omega
theorem write_nil (w : World) (addr : Int) (A : Option Addr) (len cap : Nat) : Calls Try.prog 40 #[.pointer none, .int .u64 addr, .slice A len cap] w fun e w' => e = .returned (.tuple #[]) ∧ w = w' := by
  go_enter Try.func40, Try.ntmps40
  go_wp2
  (try simp only [Exit.inBlock, Exit.then]); refine bodyPost_ret (results_none rfl _ _ _) rfl ?_
  exact ⟨rfl, rfl⟩
set_option maxHeartbeats 4000000 in
theorem write_any {Y : Rest} {S : Nat → Prop} {w : World} {sb n k : Nat} {f : Nat → Option Nat} {M st : Nat → Int} (h : StoreAt Y S w sb n f k M st) (addr : Nat) (A : Option Addr) (len cap : Nat) (xs : List Int) (hr : Rd w A xs) (hl : xs.length = len) (hlc : len ≤ cap)
    (hA : 0 < len → ∀ ad, A = some ad → ¬ S ad.block) (ha : addr < 2 ^ 64) (hlen : len ≤ 4194304) (hn : n < 90000000) (hS : ∀ b, w.heap.size ≤ b → S b) :
    Calls Try.prog 40 #[.pointer (some ⟨sb, 1, none⟩), .int .u64 (addr : Int), .slice A len cap] w (WritePost Y S w sb n f k M st addr (xs.take (room addr len))) := by
  have cb := below_any addr len w (by omega)
  have hroom : room addr len ≤ len := Nat.min_le_left _ _
  have hrin : room addr len ≤ 274877906944 - addr := Nat.min_le_right _ _
  have hy : (xs.take (room addr len)).length = room addr len := by rw [List.length_take]; omega
  have hry := hr.take (room addr len)
  generalize room addr len = R at *
  generalize xs.take R = ys at *
  have hx0 : (0 : Int) ≤ (addr : Int) := by omega
  have hx1 : (addr : Int) ≤ 18446744073709551615 := by omega
  have hlI : (len : Int) ≤ 4194304 := by omega
  have hRl : (R : Int) ≤ (len : Int) := by omega
  have hRc : (R : Int) ≤ (cap : Int) := by omega
  have HA := Lib.hid ha; clear ha
  have HRI := Lib.hid hrin; clear hrin
  have HLN := Lib.hid hlen; clear hlen
  have HH := Lib.hid h; clear h
  have CB := Lib.hid cb; clear cb
  have HY := Lib.hid hy; clear hy
  have HRY := Lib.hid hry; clear hry
  have HL := Lib.hid hl; clear hl
  have HR := Lib.hid hr; clear hr
  have HS := Lib.hid hS; clear hS
  have HAA := Lib.hid hA; clear hA
  have HN := Lib.hid hn; clear hn
  (try unfold addr0)
  obtain ⟨x, hx⟩ : ∃ x : Int, x = (addr : Int) := ⟨_, rfl⟩
  rw [← hx] at hx0 hx1 CB ⊢
  have HX := Lib.hid hx; clear hx
  go_enter Try.func40, Try.ntmps40
  go_wp2_with fail
  refine CB.out.mono ?_
  rintro e w' ⟨rfl, rfl⟩
  go_wp2_with fail
  clear hlI
  go_loopw [1, 2, 6, 7] (fun v1 v2 _ _ wr => ∃ (j t cp : Nat) (B : Option Addr), v1 = .int .u64 ((addr + t : Nat) : Int) ∧ v2 = .slice B (R - t) cp ∧ WR Y S w sb n f k M st addr ys j t wr B cp) (fun _ v2 _ _ _ => lenV v2)
  case atStart =>
    refine ⟨0, 0, cap, A, ?_, rfl, ?_⟩
    · rw [HX.out]; rfl
    · exact ⟨Nat.zero_le _, by rw [HY.out]; omega, HRY.out, (fun h0 => HAA.out (by rw [HY.out] at h0; omega)), ⟨f, k, st, by simpa [lay_nil] using HH.out, Held.none_ f k _, (Rise.refl st).mono fun p hp => by omega⟩, Fr.refl _ _, fun _ => by simp, .inl ⟨rfl, rfl⟩⟩
  case round =>
    obtain ⟨j, t, cp, B, rfl, rfl, hw⟩ := hrel
    clear hx0 hx1 CB HX
    by_cases hlt : t < R
    · have hrl : 0 < R - t := by omega
      have hrlI : (0 : Int) < ((R - t : Nat) : Int) := by omega
      have hpage := hw.page (by rw [HY.out]; exact hlt)
      obtain ⟨num, hnum⟩ : ∃ num, num = (addr + t) / 4096 := ⟨_, rfl⟩
      obtain ⟨off, hoff⟩ : ∃ off, off = (addr + t) % 4096 := ⟨_, rfl⟩
      obtain ⟨x, hx⟩ : ∃ x : Int, x = ((addr + t : Nat) : Int) := ⟨_, rfl⟩
      have hxn : x / 4096 = (num : Int) := by omega
      have hxo : x % 4096 = (off : Int) := by omega
      have hx0 : 0 ≤ x := by omega
      have hx1 : x ≤ 274877906944 := by have := HRI.out; omega
      have ho : (off : Int) < 4096 := by omega
      rw [← hx]
      have HX := Lib.hid hx; clear hx
      have HNUM := Lib.hid hnum; clear hnum
      have HOFF := Lib.hid hoff; clear hoff
      have HP := Lib.hid hpage; clear hpage
      obtain ⟨f1, k1, st1, hst, hheld, hris⟩ := hw.at_
      have HW := Lib.hid hw; clear hw
      have HST := Lib.hid hst; clear hst
      have HHELD := Lib.hid hheld; clear hheld
      have HRIS := Lib.hid hris; clear hris
      go_wp2_with fail
      have hj : j ≤ 1100 := by
        have h1 := HW.out.done
        have h2 := HLN.out
        have h3 := hroom
        rcases h1 with ⟨_, h1⟩ | ⟨_, h1⟩ <;> omega
      have hNlim : num < 67108864 := by
        have h1 := HRI.out; have h2 := HNUM.out; omega
      have hSr : ∀ b, wr.heap.size ≤ b → S b := fun b hb => HS.out b (Nat.le_trans HW.out.fr.size hb)
      have hN := HN.out
      refine (hold_any HST.out num hNlim (by omega) hSr).mono ?_
      rintro e w1 ⟨b, rfl, hst1, hb1, fr1⟩
      obtain ⟨pm, sm, c, l, hsa⟩ := hst1
      have rd1 := HW.out.rd.fr fr1 (fun _ => HW.out.out (by rw [HY.out]; exact hlt))
      have hzl : (ys.drop t).length = R - t := by rw [List.length_drop, HY.out]
      have hoffN : off < 4096 := by omega
      have hSr1 := hSr
      clear hSr hN hNlim
      have HSA := Lib.hid hsa; clear hsa
      have HB1 := Lib.hid hb1; clear hb1
      have RD1 := Lib.hid rd1; clear rd1
      have HZ := Lib.hid hzl; clear hzl
      have FR1 := Lib.hid fr1; clear fr1
      have HJ := Lib.hid hj; clear hj
      have HSR := Lib.hid hSr1; clear hSr1
      have hsl := slice53 b off hoffN
      obtain ⟨w2, dn, hdn, hcp, hsa2, fr2⟩ := HSA.out.copyRun HB1.out hoffN B (R - t) cp _ RD1.out HZ.out hrl 3
      have HDN := Lib.hid hdn; clear hdn
      have HSA2 := Lib.hid hsa2; clear hsa2
      have FR2 := Lib.hid fr2; clear fr2
      have hd1 : dn ≤ R - t := by rw [HDN.out]; omega
      have hdI : (dn : Int) ≤ ((R - t : Nat) : Int) := by omega
      have hdc : (dn : Int) ≤ (cp : Int) := by have := HW.out.cap_; rw [HY.out] at this; omega
      (try unfold addr0)
      go_wp2_with fail
      have hN := HN.out
      have hJ := HJ.out
      have hs2 : S w2.heap.size := HSR.out _ (Nat.le_trans FR1.out.size FR2.out.size)
      refine (stamp_any ⟨_, _, _, _, HSA2.out⟩ num (by have := HNUM.out; have := HRI.out; omega) (by omega) hs2).mono ?_
      rintro e w3 ⟨rfl, ⟨st3, hst3, hris3⟩, fr3⟩
      have hstep := HW.out.step (by rw [HY.out]; exact hlt) HRIS.out HHELD.out HNUM.out HOFF.out (by rw [HY.out]; exact HDN.out) hst3 hris3 ((FR1.out.trans FR2.out).trans fr3)
      have HSTEP := Lib.hid hstep; clear hstep hst3 hris3 fr3 hN hJ hs2 hcp hsl
      have hdx : x + (dn : Int) ≤ 274877906944 := by have := HX.out; have := HRI.out; omega
      go_wp2_with fail
      refine ⟨⟨j + 1, t + dn, cp - dn, _, ?_, ?_, HSTEP.out⟩, ?_⟩
      · rw [HX.out]; congr 1; omega
      · congr 1; omega
      · simp only [lenV]
        have h1 := HDN.out
        omega
    · have hw' := hw
      have ht : t = R := by have := hw.le; rw [HY.out] at this; omega
      have HW := Lib.hid hw; clear hw hw'
      have HT := Lib.hid ht
      have h0 : R - t = 0 := by omega
      rw [h0]
      clear ht hlt h0
      have CNT := Lib.hid hroom
      go_wp2_with fail
      go_end0
      refine ⟨rfl, ?_⟩
      obtain ⟨f', k', st', hst, hheld, hris⟩ := HW.out.at_
      have hj : pagesOf addr ys.length = j := by
        have h1 := HW.out.done
        rw [HT.out] at h1
        unfold pagesOf
        rw [HY.out]
        split
        · omega
        · rcases h1 with h1 | h1 <;> omega
      have hty : ys.take t = ys := List.take_of_length_le (by rw [HY.out, HT.out]; exact Nat.le_refl _)
      rw [hj]
      rw [hty] at hst
      exact ⟨f', k', st', hst, HW.out.fr, hheld, hris⟩
end Go.Proofs.Ytpalhkfipnbcnaa
