/-
  Write: bytes laid at a place, page by page.
  Read: the bytes from a place on.
  Stamps of a span; a page that is wiped whole.
  Clear: nothing, some pages, all pages; what is asked of a store that is none.
-/
import Derived.Test.YtbngjbmfkekdnaaGreatDoorQ4
set_option linter.unusedVariables false
set_option linter.unusedSimpArgs false
namespace Go.Proofs.YtbngjbmfkekdnaaGreatDoor
open Go.RowKit
set_option maxRecDepth 100000

/-- How many of m pages from a on are not held. -/
def cnt (f : Nat → Option Nat) (a : Nat) : Nat → Nat
  | 0 => 0
  | m + 1 => cnt f a m + (if (f (a + m)).isSome then 0 else 1)
/-- m pages from a on are held, k' in all. -/
structure Held (f f' : Nat → Option Nat) (k k' a m : Nat) : Prop where
  some_ : ∀ p, (f' p).isSome = ((f p).isSome || decide (a ≤ p ∧ p < a + m))
  count : k' = k + cnt f a m
theorem Held.none_ (f : Nat → Option Nat) (k a : Nat) : Held f f k k a 0 := ⟨fun p => by rw [decide_eq_false (by omega)]; simp, rfl⟩
theorem Held.next {f g : Nat → Option Nat} {k k1 a j : Nat} (h : Held f g k k1 a j) (b : Nat) : Held f (hf g (a + j) b) k (hk g (a + j) k1) a (j + 1) := by
  have hs : (g (a + j)).isSome = (f (a + j)).isSome := by rw [h.some_]; rw [decide_eq_false (by omega)]; simp
  refine ⟨fun p => ?_, ?_⟩
  · unfold hf
    by_cases e : p = a + j
    · subst e
      rw [decide_eq_true (by omega)]
      rcases hc : (g (a + j)).isSome with _ | _
      · simp [put1_same]
      · simp [hc]
    · have : decide (a ≤ p ∧ p < a + (j + 1)) = decide (a ≤ p ∧ p < a + j) := by
        by_cases h1 : a ≤ p ∧ p < a + j
        · rw [decide_eq_true h1, decide_eq_true (by omega)]
        · rw [decide_eq_false h1, decide_eq_false (by omega)]
      rw [this, ← h.some_]
      split
      · rfl
      · rw [put1_other _ _ _ e]
  · unfold hk
    simp only [cnt]
    rw [hs, h.count]
    split <;> omega

/-- Bytes copied into a page. -/
theorem SA.copyRun {Y : Rest} {S : Nat → Prop} {w : World} {sb n k : Nat} {f : Nat → Option Nat} {M st : Nat → Int} {pm sm : Value} {c l : Int} (h : SA Y S w sb n f k M st pm sm c l) {num b off : Nat} (hb : f num = some b) (hoff : off < 4096)
    (A : Option Addr) (sLen sCap : Nat) (zs : List Int) (hr : Rd w A zs) (hl : zs.length = sLen) (h0 : 0 < sLen) (ty : TypeId) :
    ∃ (w' : World) (dn : Nat), dn = min sLen (4096 - off) ∧ (Builtin.copy_ #[22, 22] ty #[.slice (some ⟨b, off, none⟩) (4096 - off) (4096 - off), .slice A sLen sCap]).run Tryz.prog w = .ok (.int .i64 (dn : Int)) w' ∧
      SA Y S w' sb n f k (lay M (num * 4096 + off) (zs.take dn)) st pm sm c l ∧ Fr S w w' := by
  obtain ⟨ad, rfl, hc⟩ := hr (by omega)
  have hz : (zs.take (min sLen (4096 - off))).length = min sLen (4096 - off) := by rw [List.length_take, hl]; omega
  have hbb := (h.at_ num b hb).2
  have hrun := run_copy_row (P := Tryz.prog) w 22 22 ty 5 b off (4096 - off) (4096 - off) ad sLen sCap _ 138 (asBytes (zs.take (min sLen (4096 - off)))) Tryz.underlying22 sizeByte hbb (by rw [asBytes_length, hz]) (fun j v hj => by
    obtain ⟨h1, rfl⟩ := asBytes_get _ _ _ hj
    rw [hz] at h1
    rw [hc j (by omega), List.getD_eq_getElem?_getD, List.getD_eq_getElem?_getD, List.getElem?_take_of_lt h1]) (by rw [asBytes_length, hz, List.size_toArray, asBytes_length, pageOf_length]; omega) (bytes_one _)
  rw [asBytes_length, hz] at hrun
  refine ⟨_, _, rfl, hrun, h.write hb (by rw [hz]; omega) ?_ ?_, ?_⟩
  · exact ⟨rfl, rfl, rfl, by simp [World.setRow], fun x _ hne => setRow_other w b x _ (fun e => hne (by rw [e]))⟩
  · rw [setRow_heap w b _ _ 138 _ hbb]
    simp only [splice, asBytes, List.map_append, List.map_take, List.map_drop, hz, List.append_assoc]
  · exact ⟨rfl, rfl, rfl, by simp [World.setRow], fun x _ hne => setRow_other w b x _ (fun e => hne (by rw [e]; exact (h.at_ num b hb).1))⟩
theorem slice53 (b off : Nat) (h : off < 4096) (w : World) : (Instr.sliceAt 138 (.pointer (some ⟨b, 0, none⟩)) (some (.int .u64 (off : Int))) none none).run Tryz.prog w = .ok (.slice (some ⟨b, off, none⟩) (4096 - off) (4096 - off)) w := by
  obtain ⟨i0, hi0, hz0, hz1, hz2⟩ := info_parts infoByte
  have h1 : (0 : Int) ≤ (off : Int) ∧ (off : Int) ≤ ((4096 : Nat) : Int) := by omega
  have h2 : ¬ 4096 = off := by omega
  have hadd : (⟨b, 0, none⟩ : Addr).add off = ⟨b, off, none⟩ := by unfold Addr.add; split <;> simp_all
  simp [Instr.sliceAt, run_underlying Tryz.underlying138, Instr.sureAddr, Instr.sliceBounds, Instr.sliceBound, asIntOf, sizeOf, typeInfo, hi0, hz1, h1, h2, hadd, Result.andThen]
  rw [if_pos (by omega)]
  simp [h2, hadd]
def lenV : Value → Nat | .slice _ n _ => n | _ => 0
/-- How many pages the places from addr on, r of them, lie in. -/
def pagesOf (addr r : Nat) : Nat := if r = 0 then 0 else (addr + r - 1) / 4096 + 1 - addr / 4096
/-- What a Write leaves. -/
def WritePost (Y : Rest) (S : Nat → Prop) (w : World) (sb n : Nat) (f : Nat → Option Nat) (k : Nat) (M st : Nat → Int) (addr : Nat) (ys : List Int) (e : Ending) (w' : World) : Prop :=
  e = .returned (.tuple #[]) ∧ ∃ f' k' st', StoreAt Y S w' sb (n + 3 * pagesOf addr ys.length) f' k' (lay M addr ys) st' ∧ Fr S w w' ∧ Held f f' k k' (addr / 4096) (pagesOf addr ys.length) ∧ Rise st st' (fun p => addr / 4096 ≤ p ∧ p < addr / 4096 + pagesOf addr ys.length)
theorem Rd.fr {S : Nat → Prop} {w w' : World} {A : Option Addr} {xs : List Int} (h : Rd w A xs) (hf : Fr S w w') (hA : 0 < xs.length → ∀ ad, A = some ad → ¬ S ad.block) : Rd w' A xs := by
  intro h0
  obtain ⟨ad, rfl, hc⟩ := h h0
  refine ⟨ad, rfl, fun i hi => ?_⟩
  have h1 := hc i hi
  rw [World.cell?_of_block (w := w) (hf.block _ (block_lt_of_cell h1) (by rw [add_block]; exact hA h0 ad rfl))]
  exact h1
theorem Rd.take {w : World} {A : Option Addr} {xs : List Int} (h : Rd w A xs) (k : Nat) : Rd w A (xs.take k) := by
  intro h0
  rw [List.length_take] at h0
  obtain ⟨ad, rfl, hc⟩ := h (by omega)
  refine ⟨ad, rfl, fun i hi => ?_⟩
  rw [List.length_take] at hi
  rw [hc i (by omega), List.getD_eq_getElem?_getD, List.getD_eq_getElem?_getD, List.getElem?_take_of_lt (by omega)]
/-- Where a Write stands: j pages are done, t bytes. -/
structure WR (Y : Rest) (S : Nat → Prop) (w : World) (sb n : Nat) (f : Nat → Option Nat) (k : Nat) (M st : Nat → Int) (addr : Nat) (ys : List Int) (j t : Nat) (wr : World) (A : Option Addr) (cap : Nat) : Prop where
  le : t ≤ ys.length
  cap_ : ys.length - t ≤ cap
  rd : Rd wr A (ys.drop t)
  out : t < ys.length → ∀ ad, A = some ad → ¬ S ad.block
  at_ : ∃ f' k' st', StoreAt Y S wr sb (n + 3 * j) f' k' (lay M addr (ys.take t)) st' ∧ Held f f' k k' (addr / 4096) j ∧ Rise st st' (fun p => addr / 4096 ≤ p ∧ p < addr / 4096 + j)
  fr : Fr S w wr
  page : t < ys.length → (addr + t) / 4096 = addr / 4096 + j
  done : (t = 0 ∧ j = 0) ∨ (0 < t ∧ (addr + t - 1) / 4096 + 1 = addr / 4096 + j)
theorem WR.step {Y : Rest} {S : Nat → Prop} {w : World} {sb n k : Nat} {f : Nat → Option Nat} {M st : Nat → Int} {addr : Nat} {ys : List Int} {j t : Nat} {wr : World} {B : Option Addr} {cp : Nat} (h : WR Y S w sb n f k M st addr ys j t wr B cp) (hlt : t < ys.length)
    {f1 : Nat → Option Nat} {k1 : Nat} {st1 st2 : Nat → Int} (hris : Rise st st1 (fun p => addr / 4096 ≤ p ∧ p < addr / 4096 + j)) (hheld : Held f f1 k k1 (addr / 4096) j) {num off dn b : Nat} (hnum : num = (addr + t) / 4096) (hoff : off = (addr + t) % 4096) (hdn : dn = min (ys.length - t) (4096 - off)) {w3 : World}
    (hst : StoreAt Y S w3 sb (n + 3 * j + 1 + 2) (hf f1 num b) (hk f1 num k1) (lay (lay M addr (ys.take t)) (num * 4096 + off) ((ys.drop t).take dn)) st2) (hris2 : Rise st1 st2 (fun p => p = num)) (fr : Fr S wr w3) :
    WR Y S w sb n f k M st addr ys (j + 1) (t + dn) w3 (if cp = dn then B else B.map (·.add dn)) (cp - dn) := by
  have hpage := h.page hlt
  have hcap := h.cap_
  have hle := h.le
  have hd0 : 0 < dn := by omega
  have hd1 : dn ≤ ys.length - t := by omega
  refine ⟨by omega, by omega, ?_, ?_, ⟨hf f1 num b, hk f1 num k1, st2, ?_, ?_, ?_⟩, h.fr.trans fr, fun hx => ?_, .inr ⟨by omega, ?_⟩⟩
  · have h1 := (h.rd.fr fr (fun h0 => h.out hlt)).drop dn cp (by rw [List.length_drop]; omega) (by rw [List.length_drop]; omega)
    rw [List.drop_drop] at h1
    exact h1
  · intro _ ad had
    split at had
    · exact h.out hlt ad had
    · rcases B with _ | a0
      · cases had
      · simp only [Option.map_some, Option.some.injEq] at had
        subst had
        rw [add_block]
        exact h.out hlt a0 rfl
  · have e1 : lay (lay M addr (ys.take t)) (num * 4096 + off) ((ys.drop t).take dn) = lay M addr (ys.take (t + dn)) := by
      have e2 : num * 4096 + off = addr + (ys.take t).length := by rw [List.length_take]; omega
      rw [e2, lay_lay, List.take_add]
    rw [e1] at hst
    exact hst.mono (by omega)
  · have e3 : num = addr / 4096 + j := by omega
    rw [e3]
    exact hheld.next b
  · exact (hris.trans hris2).mono fun p hp => by
      by_cases e : p = num
      · exact .inr e
      · exact .inl (by omega)
  · omega
  · omega
theorem write_nil (w : World) (addr : Int) (A : Option Addr) (len cap : Nat) : Calls Tryz.prog 33 #[.pointer none, .int .u64 addr, .slice A len cap] w fun e w' => e = .returned (.tuple #[]) ∧ w = w' := by
  go_enter Tryz.func33, Tryz.ntmps33
  go_wp2
  (try simp only [Exit.inBlock, Exit.then]); refine bodyPost_ret (results_none rfl _ _ _) rfl ?_
  exact ⟨rfl, rfl⟩
set_option maxHeartbeats 4000000 in
theorem write_any {Y : Rest} {S : Nat → Prop} {w : World} {sb n k : Nat} {f : Nat → Option Nat} {M st : Nat → Int} (h : StoreAt Y S w sb n f k M st) (addr : Nat) (A : Option Addr) (len cap : Nat) (xs : List Int) (hr : Rd w A xs) (hl : xs.length = len) (hlc : len ≤ cap)
    (hA : 0 < len → ∀ ad, A = some ad → ¬ S ad.block) (ha : addr < 2 ^ 64) (hlen : len ≤ 4194304) (hn : n < 90000000) (hS : ∀ b, w.heap.size ≤ b → S b) :
    Calls Tryz.prog 33 #[.pointer (some ⟨sb, 1, none⟩), .int .u64 (addr : Int), .slice A len cap] w (WritePost Y S w sb n f k M st addr (xs.take (room addr len))) := by
  have cb := below_any addr len w (by omega)
  have hroom : room addr len ≤ len := Nat.min_le_left _ _
  have hrin : room addr len ≤ 274877906944 - addr := Nat.min_le_right _ _
  have hy : (xs.take (room addr len)).length = room addr len := by rw [List.length_take]; omega
  have hry := hr.take (room addr len)
  generalize room addr len = R at *
  generalize xs.take R = ys at *
  have hx0 : (0 : Int) ≤ (addr : Int) := by omega
  have hx1 : (addr : Int) ≤ 18446744073709551615 := by omega
  have hlI : (len : Int) ≤ 4194304 := by omega
  have hRl : (R : Int) ≤ (len : Int) := by omega
  have hRc : (R : Int) ≤ (cap : Int) := by omega
  have HA := Lib.hid ha; clear ha
  have HRI := Lib.hid hrin; clear hrin
  have HLN := Lib.hid hlen; clear hlen
  have HH := Lib.hid h; clear h
  have CB := Lib.hid cb; clear cb
  have HY := Lib.hid hy; clear hy
  have HRY := Lib.hid hry; clear hry
  have HL := Lib.hid hl; clear hl
  have HR := Lib.hid hr; clear hr
  have HS := Lib.hid hS; clear hS
  have HAA := Lib.hid hA; clear hA
  have HN := Lib.hid hn; clear hn
  (try unfold addr0)
  obtain ⟨x, hx⟩ : ∃ x : Int, x = (addr : Int) := ⟨_, rfl⟩
  rw [← hx] at hx0 hx1 CB ⊢
  have HX := Lib.hid hx; clear hx
  go_enter Tryz.func33, Tryz.ntmps33
  go_wp2_with fail
  refine CB.out.mono ?_
  rintro e w' ⟨rfl, rfl⟩
  go_wp2_with fail
  clear hlI
  go_loopw [1, 2, 6, 7] (fun v1 v2 _ _ wr => ∃ (j t cp : Nat) (B : Option Addr), v1 = .int .u64 ((addr + t : Nat) : Int) ∧ v2 = .slice B (R - t) cp ∧ WR Y S w sb n f k M st addr ys j t wr B cp) (fun _ v2 _ _ _ => lenV v2)
  case atStart =>
    refine ⟨0, 0, cap, A, ?_, rfl, ?_⟩
    · rw [HX.out]; rfl
    · exact ⟨Nat.zero_le _, by rw [HY.out]; omega, HRY.out, (fun h0 => HAA.out (by rw [HY.out] at h0; omega)), ⟨f, k, st, by simpa [lay_nil] using HH.out, Held.none_ f k _, (Rise.refl st).mono fun p hp => by omega⟩, Fr.refl _ _, fun _ => by simp, .inl ⟨rfl, rfl⟩⟩
  case round =>
    obtain ⟨j, t, cp, B, rfl, rfl, hw⟩ := hrel
    clear hx0 hx1 CB HX
    by_cases hlt : t < R
    · have hrl : 0 < R - t := by omega
      have hrlI : (0 : Int) < ((R - t : Nat) : Int) := by omega
      have hpage := hw.page (by rw [HY.out]; exact hlt)
      obtain ⟨num, hnum⟩ : ∃ num, num = (addr + t) / 4096 := ⟨_, rfl⟩
      obtain ⟨off, hoff⟩ : ∃ off, off = (addr + t) % 4096 := ⟨_, rfl⟩
      obtain ⟨x, hx⟩ : ∃ x : Int, x = ((addr + t : Nat) : Int) := ⟨_, rfl⟩
      have hxn : x / 4096 = (num : Int) := by omega
      have hxo : x % 4096 = (off : Int) := by omega
      have hx0 : 0 ≤ x := by omega
      have hx1 : x ≤ 274877906944 := by have := HRI.out; omega
      have ho : (off : Int) < 4096 := by omega
      rw [← hx]
      have HX := Lib.hid hx; clear hx
      have HNUM := Lib.hid hnum; clear hnum
      have HOFF := Lib.hid hoff; clear hoff
      have HP := Lib.hid hpage; clear hpage
      obtain ⟨f1, k1, st1, hst, hheld, hris⟩ := hw.at_
      have HW := Lib.hid hw; clear hw
      have HST := Lib.hid hst; clear hst
      have HHELD := Lib.hid hheld; clear hheld
      have HRIS := Lib.hid hris; clear hris
      go_wp2_with fail
      have hj : j ≤ 1100 := by
        have h1 := HW.out.done
        have h2 := HLN.out
        have h3 := hroom
        rcases h1 with ⟨_, h1⟩ | ⟨_, h1⟩ <;> omega
      have hNlim : num < 67108864 := by
        have h1 := HRI.out; have h2 := HNUM.out; omega
      have hSr : ∀ b, wr.heap.size ≤ b → S b := fun b hb => HS.out b (Nat.le_trans HW.out.fr.size hb)
      have hN := HN.out
      refine (hold_any HST.out num hNlim (by omega) hSr).mono ?_
      rintro e w1 ⟨b, rfl, hst1, hb1, fr1⟩
      obtain ⟨pm, sm, c, l, hsa⟩ := hst1
      have rd1 := HW.out.rd.fr fr1 (fun _ => HW.out.out (by rw [HY.out]; exact hlt))
      have hzl : (ys.drop t).length = R - t := by rw [List.length_drop, HY.out]
      have hoffN : off < 4096 := by omega
      have hSr1 := hSr
      clear hSr hN hNlim
      have HSA := Lib.hid hsa; clear hsa
      have HB1 := Lib.hid hb1; clear hb1
      have RD1 := Lib.hid rd1; clear rd1
      have HZ := Lib.hid hzl; clear hzl
      have FR1 := Lib.hid fr1; clear fr1
      have HJ := Lib.hid hj; clear hj
      have HSR := Lib.hid hSr1; clear hSr1
      have hsl := slice53 b off hoffN
      obtain ⟨w2, dn, hdn, hcp, hsa2, fr2⟩ := HSA.out.copyRun HB1.out hoffN B (R - t) cp _ RD1.out HZ.out hrl 3
      have HDN := Lib.hid hdn; clear hdn
      have HSA2 := Lib.hid hsa2; clear hsa2
      have FR2 := Lib.hid fr2; clear fr2
      have hd1 : dn ≤ R - t := by rw [HDN.out]; omega
      have hdI : (dn : Int) ≤ ((R - t : Nat) : Int) := by omega
      have hdc : (dn : Int) ≤ (cp : Int) := by have := HW.out.cap_; rw [HY.out] at this; omega
      (try unfold addr0)
      go_wp2_with fail
      have hN := HN.out
      have hJ := HJ.out
      have hs2 : S w2.heap.size := HSR.out _ (Nat.le_trans FR1.out.size FR2.out.size)
      refine (stamp_any ⟨_, _, _, _, HSA2.out⟩ num (by have := HNUM.out; have := HRI.out; omega) (by omega) hs2).mono ?_
      rintro e w3 ⟨rfl, ⟨st3, hst3, hris3⟩, fr3⟩
      have hstep := HW.out.step (by rw [HY.out]; exact hlt) HRIS.out HHELD.out HNUM.out HOFF.out (by rw [HY.out]; exact HDN.out) hst3 hris3 ((FR1.out.trans FR2.out).trans fr3)
      have HSTEP := Lib.hid hstep; clear hstep hst3 hris3 fr3 hN hJ hs2 hcp hsl
      have hdx : x + (dn : Int) ≤ 274877906944 := by have := HX.out; have := HRI.out; omega
      go_wp2_with fail
      refine ⟨⟨j + 1, t + dn, cp - dn, _, ?_, ?_, HSTEP.out⟩, ?_⟩
      · rw [HX.out]; congr 1; omega
      · congr 1; omega
      · simp only [lenV]
        have h1 := HDN.out
        omega
    · have hw' := hw
      have ht : t = R := by have := hw.le; rw [HY.out] at this; omega
      have HW := Lib.hid hw; clear hw hw'
      have HT := Lib.hid ht
      have h0 : R - t = 0 := by omega
      rw [h0]
      clear ht hlt h0
      have CNT := Lib.hid hroom
      go_wp2_with fail
      go_end0
      refine ⟨rfl, ?_⟩
      obtain ⟨f', k', st', hst, hheld, hris⟩ := HW.out.at_
      have hj : pagesOf addr ys.length = j := by
        have h1 := HW.out.done
        rw [HT.out] at h1
        unfold pagesOf
        rw [HY.out]
        split
        · omega
        · rcases h1 with h1 | h1 <;> omega
      have hty : ys.take t = ys := List.take_of_length_le (by rw [HY.out, HT.out]; exact Nat.le_refl _)
      rw [hj]
      rw [hty] at hst
      exact ⟨f', k', st', hst, HW.out.fr, hheld, hris⟩
end Go.Proofs.YtbngjbmfkekdnaaGreatDoor

set_option linter.unusedVariables false
set_option linter.unusedSimpArgs false
namespace Go.Proofs.YtbngjbmfkekdnaaGreatDoor
open Go.RowKit
set_option maxRecDepth 100000
/-- m bytes from a place on. -/
def bytesAt (M : Nat → Int) (addr m : Nat) : List Int := (List.range m).map fun i => M (addr + i)
theorem bytesAt_length (M : Nat → Int) (addr m : Nat) : (bytesAt M addr m).length = m := by simp [bytesAt]
theorem bytesAt_get (M : Nat → Int) (addr m i : Nat) (h : i < m) : (bytesAt M addr m)[i]? = some (M (addr + i)) := by simp [bytesAt, List.getElem?_range h]
theorem bytesAt_add (M : Nat → Int) (addr t d : Nat) : bytesAt M addr (t + d) = bytesAt M addr t ++ bytesAt M (addr + t) d := by
  simp only [bytesAt, List.range_add, List.map_append, List.map_map]
  congr 1
  apply List.map_congr_left
  intro i _
  simp [Nat.add_assoc]
theorem bytesAt_zero (M : Nat → Int) (addr d : Nat) (h : ∀ i, i < d → M (addr + i) = 0) : bytesAt M addr d = List.replicate d 0 := by
  apply List.ext_getElem?
  intro i
  by_cases hi : i < d
  · rw [bytesAt_get _ _ _ _ hi, h i hi, List.getElem?_replicate, if_pos hi]
  · rw [List.getElem?_eq_none (by rw [bytesAt_length]; omega), List.getElem?_eq_none (by simp; omega)]
theorem made_bytes (n : Nat) : madeCells #[.int .u8 0] n = (asBytes (List.replicate n 0)).toArray := by
  apply Array.ext
  · simp [madeCells, asBytes]
  · intro i h1 h2
    simp [madeCells, asBytes, Nat.mod_one]
theorem made29 (m : Nat) (hm : m ≤ 4194304) (w : World) : (Instr.makeSlice 22 (.int .i64 (m : Int)) (.int .i64 (m : Int))).run Tryz.prog w = .ok (.slice (some ⟨w.heap.size, 0, none⟩) m m) (w.alloc (.cells (asBytes (List.replicate m 0)).toArray 5)) := by
  obtain ⟨i0, hi0, hz0, hz1, hz2⟩ := info_parts infoByte
  have h := run_make (P := Tryz.prog) w 22 5 i0 (.int .u8 0) Tryz.underlying22 hi0 hz0 .i64 .i64 m m (by omega) (by omega) (by rw [hz2]; omega) (by omega)
  rw [← made_bytes]
  simpa [hz1, Value.cells] using h
/-- The block of what is read, at t bytes. -/
def part (M : Nat → Int) (addr m t : Nat) : List Int := bytesAt M addr t ++ List.replicate (m - t) 0
theorem part_length (M : Nat → Int) (addr m t : Nat) (h : t ≤ m) : (part M addr m t).length = m := by simp [part, bytesAt_length]; omega
theorem part_zero (M : Nat → Int) (addr m t d : Nat) (h : t + d ≤ m) (hz : ∀ i, i < d → M (addr + t + i) = 0) : part M addr m (t + d) = part M addr m t := by
  unfold part
  rw [bytesAt_add, bytesAt_zero M (addr + t) d hz, List.append_assoc, List.replicate_append_replicate]
  congr 2; omega
theorem part_copy (M : Nat → Int) (addr m t d : Nat) (h : t + d ≤ m) : splice (part M addr m t) t (bytesAt M (addr + t) d) = part M addr m (t + d) := by
  have e1 : (part M addr m t).take t = bytesAt M addr t := by
    unfold part; rw [List.take_append_of_le_length (by rw [bytesAt_length]; exact Nat.le_refl _)]; exact List.take_of_length_le (by rw [bytesAt_length]; exact Nat.le_refl _)
  have e2 : (part M addr m t).drop (t + d) = List.replicate (m - (t + d)) 0 := by
    unfold part
    rw [List.drop_append, List.drop_of_length_le (by rw [bytesAt_length]; omega), List.nil_append, List.drop_replicate, bytesAt_length]
    congr 1; omega
  simp only [splice, bytesAt_length, e1, e2]
  unfold part
  rw [bytesAt_add, List.append_assoc]
theorem StoreAt.beyond {Y : Rest} {S : Nat → Prop} {w : World} {sb n k : Nat} {f : Nat → Option Nat} {M st : Nat → Int} (h : StoreAt Y S w sb n f k M st) (a : Nat) (ha : 274877906944 ≤ a) : M a = 0 := by
  obtain ⟨pm, sm, c, l, h⟩ := h
  have h1 : f (a / 4096) = none := by
    rcases e : f (a / 4096) with _ | b
    · rfl
    · have := h.lim _ _ e; omega
  have := h.zero (a / 4096) (a % 4096) h1 (by omega)
  rwa [show a / 4096 * 4096 + a % 4096 = a by omega] at this
theorem SA.readRun {Y : Rest} {S : Nat → Prop} {w w0 : World} {sb n k : Nat} {f : Nat → Option Nat} {M st : Nat → Int} {pm sm : Value} {c l : Int} (h : SA Y S w sb n f k M st pm sm c l) {num b off : Nat} (hb : f num = some b) (g t dn dc m addr : Nat)
    (hg : w.heap[g]? = some (.cells (asBytes (part M addr m t)).toArray 5 (0, 0))) (ht : t + dn ≤ m) (hoff : off + dn ≤ 4096) (he : num * 4096 + off = addr + t) (hbl : Bl w0 w) (hg0 : w0.heap.size ≤ g) (ty : TypeId) :
    ∃ w', (Builtin.copy_ #[22, 22] ty #[.slice (some ⟨g, t, none⟩) dn dc, .slice (some ⟨b, off, none⟩) (4096 - off) (4096 - off)]).run Tryz.prog w = .ok (.int .i64 (dn : Int)) w' ∧
      w'.heap[g]? = some (.cells (asBytes (part M addr m (t + dn))).toArray 5 (0, 0)) ∧ Bl w0 w' := by
  have hbb := (h.at_ num b hb).2
  have hcl : (asBytes (bytesAt M (addr + t) dn)).length = dn := by rw [asBytes_length, bytesAt_length]
  have hrun := run_copy_row (P := Tryz.prog) w 22 22 ty 5 g t dn dc ⟨b, off, none⟩ (4096 - off) (4096 - off) _ 5 (asBytes (bytesAt M (addr + t) dn)) Tryz.underlying22 sizeByte hg (by rw [hcl]; exact (Nat.min_eq_right (by omega)).symm) (fun j v hj => by
    obtain ⟨h1, rfl⟩ := asBytes_get _ _ _ hj
    rw [bytesAt_length] at h1
    have e1 : (⟨b, off, none⟩ : Addr).add j = ⟨b, off + j, none⟩ := by unfold Addr.add; split <;> simp_all
    rw [e1, cell_of_row w b (off + j) _ 138 (0, 0) hbb]
    simp only [List.getElem?_toArray]
    rw [asBytes_at _ _ (by rw [pageOf_length]; omega), List.getD_eq_getElem?_getD, pageOf_get _ _ _ (by omega), List.getD_eq_getElem?_getD, bytesAt_get _ _ _ _ h1]
    have e2 : num * 4096 + (off + j) = addr + t + j := by omega
    rw [e2]) (by rw [hcl, List.size_toArray, asBytes_length, part_length _ _ _ _ (by omega)]; exact ht) (bytes_one _)
  rw [hcl] at hrun
  refine ⟨_, hrun, ?_, below_setRow hbl hg0 _⟩
  rw [setRow_heap w g _ _ 5 _ hg, ← part_copy M addr m t dn ht]
  simp only [splice, asBytes, List.map_append, List.map_take, List.map_drop, bytesAt_length, List.append_assoc]
theorem slice29to (A : Option Addr) (len cap k : Nat) (h : k ≤ cap) (w : World) : (Instr.sliceAt 22 (.slice A len cap) none (some (.int .i64 (k : Int))) none).run Tryz.prog w = .ok (.slice A k cap) w := by
  obtain ⟨i0, hi0, hz0, hz1, hz2⟩ := info_parts infoByte
  have hA : A.map (fun a => a.add 0) = A := by cases A <;> simp [Addr.add]
  have h1 : (0 : Int) ≤ (k : Int) ∧ (k : Int) ≤ (cap : Int) := by omega
  simp [Instr.sliceAt, Instr.slice, run_underlying Tryz.underlying22, Instr.sliceBounds, Instr.sliceBound, asIntOf, sizeOf, typeInfo, hi0, hz1, Result.andThen]
  rw [if_pos h]
  simp [hA]
section
variable {P : Program} (w : World) {ops : Array Oper} {rest : List Oper} {o : Oper} {a : Act} {Q : Exit → Act → World → Prop}
theorem wpl_copy_run {w1 : World} (hg : o.guard = none) (d s : Operand) (dT sT : TypeId) (ho : o.op = .call { callee := .builtin .copy, args := #[d, s], argTypes := #[dT, sT] }) (vd vs v1 : Value) (hd : a.eval d = vd) (hs : a.eval s = vs)
    (hrun : (Builtin.copy_ #[dT, sT] o.type #[vd, vs]).run P w = .ok v1 w1) (hK : wpList P ops Q rest (a.put o.dst v1) w1) : wpList P ops Q (o :: rest) a w := by
  refine wpList_plain hg fun K hK' => ?_
  unfold Oper.wp
  simp [execOp, ho, resolve, invoke, builtin, hd, hs, hrun, Result.andThen]
  exact hK' _ _ hK
end
/-- What a Read leaves. -/
def ReadPost (w : World) (M : Nat → Int) (addr m : Nat) (e : Ending) (w' : World) : Prop :=
  e = .returned (.slice (some ⟨w.heap.size, 0, none⟩) m m) ∧ w'.heap[w.heap.size]? = some (.cells (asBytes (bytesAt M addr m)).toArray 5 (0, 0)) ∧ Bl w w'
set_option maxHeartbeats 4000000 in
theorem read_any {Y : Rest} {S : Nat → Prop} {w : World} {sb n k : Nat} {f : Nat → Option Nat} {M st : Nat → Int} (h : StoreAt Y S w sb n f k M st) (addr m : Nat) (ha : addr < 2 ^ 64) (hm1 : 1 ≤ m) (hm : m ≤ 4194304) :
    Calls Tryz.prog 118 #[.pointer (some ⟨sb, 1, none⟩), .int .u64 (addr : Int), .int .i64 (m : Int)] w (ReadPost w M addr m) := by
  have cb := fun W => below_any addr m W (by omega)
  have hroom : room addr m ≤ m := Nat.min_le_left _ _
  have hrin : room addr m ≤ 274877906944 - addr := Nat.min_le_right _ _
  have hrz : room addr m < m → 274877906944 ≤ addr + room addr m := by unfold room; omega
  generalize room addr m = R at *
  have hx0 : (0 : Int) ≤ (addr : Int) := by omega
  have hx1 : (addr : Int) ≤ 18446744073709551615 := by omega
  have hlI : (m : Int) ≤ 4194304 := by omega
  have hl1 : (1 : Int) ≤ (m : Int) := by omega
  have hRl : (R : Int) ≤ (m : Int) := by omega
  have hmk := fun W => made29 m hm W
  have HA := Lib.hid ha; clear ha
  have HRI := Lib.hid hrin; clear hrin
  have HRZ := Lib.hid hrz; clear hrz
  have HH := Lib.hid h; clear h
  have CB := Lib.hid cb; clear cb
  (try unfold addr0)
  obtain ⟨x, hx⟩ : ∃ x : Int, x = (addr : Int) := ⟨_, rfl⟩
  rw [← hx] at hx0 hx1 CB ⊢
  have HX := Lib.hid hx; clear hx
  go_enter Tryz.func118, Tryz.ntmps118
  go_wp2_with fail
  refine (CB.out _).mono ?_
  rintro e w' ⟨rfl, rfl⟩
  go_wp2_with fail
  clear hmk CB hx0 hx1
  have h0 : Bl w (w.alloc (.cells (asBytes (List.replicate m 0)).toArray 5)) := Bl.new _ _
  have hg0 : (w.alloc (.cells (asBytes (List.replicate m 0)).toArray 5)).heap[w.heap.size]? = some (.cells (asBytes (part M addr m 0)).toArray 5 (0, 0)) := by
    rw [heap_alloc_new]; simp [part, bytesAt]
  have H0 := Lib.hid h0; clear h0
  have HG0 := Lib.hid hg0; clear hg0
  generalize w.alloc (.cells (asBytes (List.replicate m 0)).toArray 5) = W at *
  go_loopw [1, 8, 9, 10] (fun v1 v8 _ _ wr => ∃ (t : Nat) (B : Option Addr), v1 = .int .u64 ((addr + t : Nat) : Int) ∧ v8 = .slice B (R - t) (m - t) ∧ (t < R → B = some ⟨w.heap.size, t, none⟩) ∧ t ≤ R ∧ wr.heap[w.heap.size]? = some (.cells (asBytes (part M addr m t)).toArray 5 (0, 0)) ∧ Bl w wr) (fun _ v8 _ _ _ => lenV v8)
  case atStart => exact ⟨0, _, by rw [HX.out]; rfl, rfl, fun _ => rfl, Nat.zero_le _, HG0.out, H0.out⟩
  case round =>
    obtain ⟨t, B, rfl, rfl, hB, htR, hg, hbl⟩ := hrel
    clear HX
    have HG := Lib.hid hg; clear hg
    have HBL := Lib.hid hbl; clear hbl
    by_cases hlt : t < R
    · obtain rfl := hB hlt
      clear hB
      have hrlI : (0 : Int) < ((R - t : Nat) : Int) := by omega
      obtain ⟨num, hnum⟩ : ∃ num, num = (addr + t) / 4096 := ⟨_, rfl⟩
      obtain ⟨off, hoff⟩ : ∃ off, off = (addr + t) % 4096 := ⟨_, rfl⟩
      obtain ⟨x, hx⟩ : ∃ x : Int, x = ((addr + t : Nat) : Int) := ⟨_, rfl⟩
      obtain ⟨dn, hdn⟩ : ∃ dn, dn = min (R - t) (4096 - off) := ⟨_, rfl⟩
      have hxn : x / 4096 = (num : Int) := by omega
      have hxo : x % 4096 = (off : Int) := by omega
      have hx0 : 0 ≤ x := by omega
      have hx1 : x ≤ 274877906944 := by have := HRI.out; omega
      have ho : (off : Int) < 4096 := by omega
      have hd0 : (0 : Int) ≤ (dn : Int) := by omega
      have hdx : x + (dn : Int) ≤ 274877906944 := by have := HRI.out; omega
      have hdR : (dn : Int) ≤ ((R - t : Nat) : Int) := by omega
      have hdm : (dn : Int) ≤ ((m - t : Nat) : Int) := by omega
      have hmn : ∀ W', (Builtin.min_ #[3, 3] 3 #[.int .i64 ((R - t : Nat) : Int), .int .i64 (4096 - (off : Int))]).run Tryz.prog W' = .ok (.int .i64 (dn : Int)) W' := by
        intro W'
        rw [min_run]
        congr 2
        split <;> omega
      have hSA := HH.out.bl HBL.out
      obtain ⟨pm, sm, c, l, hSA⟩ := hSA
      obtain ⟨c0, c1, c2, c3⟩ := hSA.cell
      have hlook := hSA.pages.look (show num < 2 ^ 64 by have := HRI.out; omega)
      rw [← hx]
      have HX := Lib.hid hx; clear hx
      have HNUM := Lib.hid hnum; clear hnum
      have HOFF := Lib.hid hoff; clear hoff
      have HDN := Lib.hid hdn; clear hdn
      have HSA := Lib.hid hSA; clear hSA
      rcases hb : f num with _ | b
      · rw [hb] at hlook
        simp only [ptrOf, Option.map_none] at hlook
        have HB := Lib.hid hb; clear hb
        go_wp2_with fail
        have hd2 : dn ≤ R - t := by omega
        have hd3 : 0 < dn := by have := HDN.out; have := HOFF.out; omega
        refine ⟨⟨t + dn, (if m - t = dn then some ⟨w.heap.size, t, none⟩ else some ⟨w.heap.size, t + dn, none⟩), ?_, ?_, fun hlt2 => ?_, by omega, ?_, HBL.out⟩, ?_⟩
        · rw [HX.out]; congr 1; omega
        · congr 1 <;> omega
        · rw [if_neg (by omega)]
        · rw [part_zero M addr m t dn (by omega) (fun i hi => ?_)]
          · exact HG.out
          · have h1 := HSA.out.zero num (off + i) HB.out (by have := HDN.out; omega)
            have h2 : num * 4096 + (off + i) = addr + t + i := by have := HNUM.out; have := HOFF.out; omega
            rwa [h2] at h1
        · simp only [lenV]; omega
      · rw [hb] at hlook
        simp only [ptrOf, Option.map_some] at hlook
        have HB := Lib.hid hb; clear hb
        have hoffN : off < 4096 := by omega
        have hsl := slice53 b off hoffN
        have hs2 := slice29to (some ⟨w.heap.size, t, none⟩) (R - t) (m - t) dn (by omega)
        go_wp2_with fail
        have hxt : x.tmod 4096 = (off : Int) := by rw [Int.tmod_eq_emod_of_nonneg hx0]; exact hxo
        go_still_tail 8, (by kernel_rfl)
        change wpList _ _ _ _ _ wr.drew
        have hd2 : dn ≤ R - t := by omega
        have hd3 : 0 < dn := by have := HDN.out; have := HOFF.out; omega
        obtain ⟨w2, hcp, hg2, hbl2⟩ := (HSA.out.bl (Bl.refl wr).drew).readRun (off := off) HB.out w.heap.size t dn (m - t) m addr HG.out (by omega) (by have := HDN.out; omega) (by have := HNUM.out; have := HOFF.out; omega) HBL.out.drew (Nat.le_refl _) 3
        have HG2 := Lib.hid hg2; clear hg2
        have HBL2 := Lib.hid hbl2; clear hbl2
        refine wpl_copy_run _ rfl (.tmp 49) (.tmp 54) 22 22 rfl _ _ _ rfl rfl hcp ?_
        clear hcp hxt hs2 hsl hlook c0 c1 c2 c3 hmn
        go_wp2_with fail
        refine ⟨⟨t + dn, (if m - t = dn then some ⟨w.heap.size, t, none⟩ else some ⟨w.heap.size, t + dn, none⟩), ?_, ?_, fun hlt2 => ?_, by omega, HG2.out, HBL2.out⟩, ?_⟩
        · rw [HX.out]; congr 1; omega
        · congr 1 <;> omega
        · rw [if_neg (by omega)]
        · simp only [lenV]; omega
    · have ht : t = R := by omega
      have HT := Lib.hid ht
      have h0 : R - t = 0 := by omega
      rw [h0]
      clear ht hlt h0 hB
      go_wp2_with fail
      go_ret
      refine ⟨rfl, ?_, HBL.out⟩
      have e : part M addr m t = bytesAt M addr m := by
        have e1 := HRZ.out
        rw [HT.out]
        obtain ⟨d, hd⟩ : ∃ d, m = R + d := ⟨m - R, by omega⟩
        have e2 : part M addr m (R + d) = part M addr m R := part_zero M addr m R d (by omega) (fun i hi => HH.out.beyond _ (by omega))
        rw [← e2, ← hd]
        simp [part]
      rw [← e]
      exact HG.out
theorem read_none {w : World} {sb : Nat} (x n : Int) (hn : n < 1 ∨ 4194304 < n) : Calls Tryz.prog 118 #[.pointer (some ⟨sb, 1, none⟩), .int .u64 x, .int .i64 n] w fun e w' => e = .returned (.slice none 0 0) ∧ w = w' := by
  (try unfold addr0)
  rcases hn with hn | hn
  · go_enter Tryz.func118, Tryz.ntmps118
    go_wp2
    go_ret
    exact ⟨rfl, rfl⟩
  · have hn2 : 1 ≤ n := by omega
    go_enter Tryz.func118, Tryz.ntmps118
    go_wp2
    go_ret
    exact ⟨rfl, rfl⟩
theorem read_nil {w : World} (x n : Int) : Calls Tryz.prog 118 #[.pointer none, .int .u64 x, .int .i64 n] w fun e w' => e = .returned (.slice none 0 0) ∧ w = w' := by
  go_enter Tryz.func118, Tryz.ntmps118
  go_wp2
  go_ret
  exact ⟨rfl, rfl⟩
end Go.Proofs.YtbngjbmfkekdnaaGreatDoor

set_option linter.unusedVariables false
set_option linter.unusedSimpArgs false
namespace Go.Proofs.YtbngjbmfkekdnaaGreatDoor
open Go.RowKit
set_option maxRecDepth 100000
/-- All pages get one stamp: the last; the stamps of their own are struck. -/
theorem SA.setCommon {Y : Rest} {S : Nat → Prop} {w : World} {sb n k : Nat} {f : Nat → Option Nat} {M st : Nat → Int} {pm sm : Value} {c l : Int} (h : SA Y S w sb n f k M st pm sm c l) :
    ∃ w', (∀ ty, (Builtin.clear_ #[61] ty #[sm]).run Tryz.prog (w.setCell ⟨sb, 3, none⟩ (.int .u64 l)) = .ok (.tuple #[]) w') ∧ SA Y S w' sb n f k M (fun _ => l) pm sm l l ∧ Fr S w w' ∧ (w.setCell ⟨sb, 3, none⟩ (.int .u64 l)).cell? ⟨sb, 2, none⟩ = some sm := by
  have hb1 := heap_setCell_same w sb 3 _ 65 (.int .u64 l) h.blk
  have hfr : Fr S w (w.setCell ⟨sb, 3, none⟩ (.int .u64 l)) := Fr.set h.own _
  have hcl : (w.setCell ⟨sb, 3, none⟩ (.int .u64 l)).cell? ⟨sb, 2, none⟩ = some sm := by rw [cell_of_row _ _ _ _ _ _ hb1]; rfl
  rcases h.stamps with ⟨rfl, _⟩ | ⟨B, D, rfl, hSB, hown, _⟩
  · refine ⟨_, fun ty => by simp [Builtin.clear_, run_underlying Tryz.underlying61, Result.andThen], ?_, hfr, hcl⟩
    exact h.cells (setCell_others w sb 3 _) hb1 h.lw (fun _ _ => Int.le_refl _) (h.keptP 3 _) (.inl ⟨rfl, fun _ _ => rfl⟩) h.apart
  · obtain ⟨es, q, hb, _⟩ := ownsMap_of_block hown (w' := w.setCell ⟨sb, 3, none⟩ (.int .u64 l)) (Below.heap_setCell _ _ _ _ (fun e => by
      obtain ⟨es, q, h2, _⟩ := hown
      have := h.blk; rw [← show B = sb from e, h2] at this; first | cases this | exact absurd (cells_ty this) (by decide)))
    have hp := h.keptP 3 (.int .u64 l)
    have hat : ∀ p b, f p = some b → S b ∧ (w.setCell ⟨sb, 3, none⟩ (.int .u64 l)).heap[b]? = some (.cells (asBytes (pageOf M p)).toArray 138 (0, 0)) := fun p b hpb => ⟨(h.at_ p b hpb).1, by
      rw [Below.heap_setCell _ _ _ _ (fun e => by have := h.blk; have h2 := (h.at_ p b hpb).2; rw [← show b = sb from e, h2] at this; first | cases this | exact absurd (cells_ty this) (by decide))]
      exact (h.at_ p b hpb).2⟩
    generalize w.setCell ⟨sb, 3, none⟩ (.int .u64 l) = W at *
    have hrun : ∀ ty, (Builtin.clear_ #[61] ty #[.map (some B)]).run Tryz.prog W = .ok (.tuple #[]) (ChangeMaps.setBlock W B (.map #[] q)) := fun ty => by
      simp [Builtin.clear_, run_underlying Tryz.underlying61, MapKept.run_getObj_map hb, MapKept.run_setObj_map _ hb, Result.andThen, ChangeMaps.setBlock]
    have other : ∀ x, x ≠ B → (ChangeMaps.setBlock W B (.map #[] q)).heap[x]? = W.heap[x]? := fun x hx => ChangeMaps.heap_setBlock_other hb _ hx
    have hcell : ∀ (x : Nat) (cs : Array Value) (t : TypeId) (fr : Nat × Nat), W.heap[x]? = some (.cells cs t fr) → (ChangeMaps.setBlock W B (.map #[] q)).heap[x]? = some (.cells cs t fr) := fun x cs t fr hx => by
      rw [other x (fun e => by rw [e, hb] at hx; cases hx)]; exact hx
    refine ⟨_, hrun, ⟨hcell _ _ _ _ hb1, h.own, h.lw, fun _ _ => Int.le_refl _, hp.kept fun B1 hB1 => other B1 (fun e => by subst e; exact h.apart _ hB1 rfl), .inr ⟨B, .map [], rfl, hSB, ⟨#[], q, ChangeMaps.heap_setBlock_same hb _, ⟨by simp, MapKept.stamped_empty q, by simp⟩, Nat.zero_le _, rfl⟩, fun _ => none, fun _ _ => rfl, fun p v _ h => (by cases h), fun _ _ => rfl⟩, h.apart, fun p b hp => ⟨(hat p b hp).1, hcell _ _ _ _ (hat p b hp).2⟩, h.inj, h.zero, h.lim⟩, ?_, hcl⟩
    exact hfr.trans ⟨rfl, rfl, rfl, by simp [ChangeMaps.setBlock], fun x _ hn => other x (fun e => hn (e ▸ hSB))⟩
def box48 (a b : Int) : Obj := .cells #[.int .u64 a, .int .u64 b] 113
/-- All blocks of S but one. -/
def less (S : Nat → Prop) (x : Nat) : Nat → Prop := fun b => S b ∧ b ≠ x
theorem StoreAt.less {Y : Rest} {S : Nat → Prop} {w : World} {sb n k : Nat} {f : Nat → Option Nat} {M st : Nat → Int} (h : StoreAt Y S w sb n f k M st) (o : Obj) : StoreAt Y (less S w.heap.size) (w.alloc o) sb n f k M st := by
  have h1 : StoreAt Y (YtbngjbmfkekdnaaGreatDoor.less S w.heap.size) w sb n f k M st := h.among fun b hb hS => ⟨hS, by omega⟩
  exact h1.bl (Bl.new w o)
theorem Fr.unless {S : Nat → Prop} {w : World} {x : Nat} {o : Obj} {w' : World} (h : Fr (less S x) (w.alloc o) w') : Fr S w w' := (Fr.of_bl (Bl.new w o)).trans (h.mono fun _ _ e => e.1)
set_option maxHeartbeats 2000000 in
theorem stampAll_wide {Y : Rest} {S : Nat → Prop} {w : World} {sb n k : Nat} {f : Nat → Option Nat} {M st : Nat → Int} (h : StoreAt Y S w sb n f k M st) (a b : Int) (ha : 0 ≤ a) (hab : a < b) (hc : b ≤ 274877906944) (hw : 4096 ≤ (b - 1) / 4096 - a / 4096) (hn : n < 90000000) :
    Calls Tryz.prog 73 #[.pointer (some ⟨sb, 1, none⟩), span a b] w fun e w' => e = .returned (.tuple #[]) ∧ (∃ st', StoreAt Y S w' sb (n + 1) f k M st' ∧ Rise st st' (fun _ => True)) ∧ Fr S w w' := by
  have cw := fun W => wide_i a b W ha hab hc
  rw [decide_eq_true hw] at cw
  have h1 := h.bl (Bl.new w (box48 a b))
  have HH1 := Lib.hid h1; clear h1 h
  have CW := Lib.hid cw; clear cw
  have hb1 : Bl w (w.alloc (box48 a b)) := Bl.new _ _
  have HB1 := Lib.hid hb1; clear hb1
  clear hw
  (try unfold addr0 at *); (try unfold span at *)
  go_enter Tryz.func73, Tryz.ntmps73
  go_wp2_with fail
  refine (CW.out _).mono ?_
  rintro e w1 ⟨rfl, bl1⟩
  (try unfold box48 at *)
  have h2 := HH1.out.bl bl1
  have bl2 := HB1.out.trans bl1
  clear bl1
  generalize w.alloc (.cells #[.int .u64 a, .int .u64 b] 113) = W at *
  obtain ⟨pm, sm, c, l, h2⟩ := h2
  obtain ⟨c0, c1, c2, c3⟩ := h2.cell
  have f3 := h2.free 4
  have H2 := Lib.hid h2; clear h2
  have BL2 := Lib.hid bl2; clear bl2
  go_upto_region 3 with (fail)
  have hlw := H2.out.lw
  have htop := H2.out.top
  rw [IntWalk.u64_in (l + 1) (by omega)]
  have h3 := H2.out.setLast
  have fr3 : Fr S w1 (w1.setCell ⟨sb, 4, none⟩ (.int .u64 (l + 1))) := Fr.set H2.out.own _
  clear c0 c1 c2 c3 f3 hlw
  generalize w1.setCell ⟨sb, 4, none⟩ (.int .u64 (l + 1)) = W3 at *
  have hris : Rise st (fun _ => l + 1) (fun _ => True) := fun p hp => by have := htop p hp; exact ⟨by show st p ≤ l + 1; omega, fun _ => by show st p < l + 1; omega⟩
  have HR := Lib.hid hris; clear hris htop
  generalize l + 1 = l3 at *
  obtain ⟨c0, c1, c2, c3⟩ := h3.cell
  have f2 := h3.free 3
  obtain ⟨w5, hrun, h5, fr5, c6⟩ := h3.setCommon
  have H5 := Lib.hid h5; clear h5 h3
  have FR3 := Lib.hid fr3; clear fr3
  go_upto_region 4 with (fail)
  clear c0 c1 c2 c3 f2
  generalize W3.setCell ⟨sb, 3, none⟩ (.int .u64 l3) = W4 at *
  go_wp2_with fail
  (try simp only [Exit.inBlock, Exit.then]); refine bodyPost_ret (results_none rfl _ _ _) rfl ?_
  exact ⟨rfl, ⟨_, ⟨_, _, _, _, H5.out⟩, HR.out⟩, ((Fr.of_bl BL2.out).trans FR3.out).trans fr5⟩
theorem box_at {S : Nat → Prop} {w w' : World} {a b : Int} (h : Fr (less S w.heap.size) (w.alloc (box48 a b)) w') : w'.heap[w.heap.size]? = some (.cells #[.int .u64 a, .int .u64 b] 113 (0, 0)) :=
  h.at_ (heap_alloc_new w _) (fun e => e.2 rfl)
theorem two_cells {w : World} {g : Nat} {x y : Value} {t : TypeId} (h : w.heap[g]? = some (.cells #[x, y] t (0, 0))) : w.cell? ⟨g, 0, none⟩ = some x ∧ w.cell? ⟨g, 1, none⟩ = some y := by
  refine ⟨?_, ?_⟩ <;> simp [World.cell?, h]
theorem less_new {S : Nat → Prop} {w w' : World} (hS : ∀ b, w.heap.size ≤ b → S b) {o : Obj} (h : (w.alloc o).heap.size ≤ w'.heap.size) : ∀ b, w'.heap.size ≤ b → less S w.heap.size b := fun b hb => by
  have : (w.alloc o).heap.size = w.heap.size + 1 := by simp
  exact ⟨hS b (by omega), by omega⟩
set_option maxHeartbeats 2000000 in
theorem stampAll_narrow {Y : Rest} {S : Nat → Prop} {w : World} {sb n k : Nat} {f : Nat → Option Nat} {M st : Nat → Int} (h : StoreAt Y S w sb n f k M st) (a b : Nat) (hab : a < b) (hc : b ≤ 274877906944) (hw : (b - 1) / 4096 - a / 4096 < 4096) (hn : n < 90000000) (hS : ∀ b, w.heap.size ≤ b → S b) :
    Calls Tryz.prog 73 #[.pointer (some ⟨sb, 1, none⟩), span (a : Int) (b : Int)] w fun e w' => e = .returned (.tuple #[]) ∧ (∃ st', StoreAt Y S w' sb (n + 8192) f k M st' ∧ Rise st st' (fun p => a / 4096 ≤ p ∧ p ≤ (b - 1) / 4096)) ∧ Fr S w w' := by
  have cw := fun W => wide_i (a : Int) (b : Int) W (by omega) (by omega) (by omega)
  rw [decide_eq_false (by omega)] at cw
  have cf := fun W => first_i (a : Int) (b : Int) W (by omega) (by omega)
  have cl := fun W => last_i (a : Int) (b : Int) W (by omega) (by omega)
  obtain ⟨q0, hq0⟩ : ∃ q0, q0 = a / 4096 := ⟨_, rfl⟩
  obtain ⟨q1, hq1⟩ : ∃ q1, q1 = (b - 1) / 4096 := ⟨_, rfl⟩
  have e0 : (a : Int) / 4096 = (q0 : Int) := by omega
  have e1 : ((b : Int) - 1) / 4096 = (q1 : Int) := by omega
  rw [e0] at cf
  rw [e1] at cl
  have hq01 : q0 ≤ q1 := by omega
  have hq2 : q1 < 67108864 := by omega
  have hq3 : q1 < q0 + 4096 := by omega
  rw [← hq0, ← hq1]
  clear e0 e1 hq0 hq1 hw
  have h1 := h.less (box48 a b)
  have HH1 := Lib.hid h1; clear h1 h
  have CW := Lib.hid cw; clear cw
  have CF := Lib.hid cf; clear cf
  have CL := Lib.hid cl; clear cl
  have HS := Lib.hid hS; clear hS
  generalize (a : Int) = A at *
  generalize (b : Int) = B at *
  have fr1 : Fr (less S w.heap.size) (w.alloc (box48 A B)) (w.alloc (box48 A B)) := Fr.refl _ _
  have FR1 := Lib.hid fr1; clear fr1
  clear hab hc
  (try unfold addr0 at *); (try unfold span at *)
  go_enter Tryz.func73, Tryz.ntmps73
  go_wp2_with fail
  refine (CW.out _).mono ?_
  rintro e w1 ⟨rfl, bl1⟩
  have fr2 := FR1.out.trans (Fr.of_bl bl1)
  have h2 := HH1.out.bl bl1
  obtain ⟨c0, c1⟩ := two_cells (box_at fr2)
  have FR2 := Lib.hid fr2; clear fr2 FR1 bl1
  have H2 := Lib.hid h2; clear h2 HH1
  go_wp2_with fail
  refine (CF.out _).mono ?_
  rintro e w2 ⟨rfl, bl2⟩
  have fr3 := FR2.out.trans (Fr.of_bl bl2)
  have h3 := H2.out.bl bl2
  clear c0 c1
  have FR3 := Lib.hid fr3; clear fr3 FR2 bl2
  have H3 := Lib.hid h3; clear h3 H2
  go_wp2_with fail
  go_loopw [4] (fun v wr => ∃ j : Nat, v = .int .u64 ((q0 + j : Nat) : Int) ∧ q0 + j ≤ q1 + 1 ∧ (∃ st', StoreAt Y (less S w.heap.size) wr sb (n + 2 * j) f k M st' ∧ Rise st st' (fun p => q0 ≤ p ∧ p < q0 + j)) ∧ Fr (less S w.heap.size) (w.alloc (box48 A B)) wr) (fun v _ => q1 + 1 - (intOf v).toNat)
  case atStart => exact ⟨0, rfl, by omega, ⟨st, H3.out, (Rise.refl st).mono fun p hp => by omega⟩, FR3.out⟩
  case round =>
    obtain ⟨j, rfl, hj, ⟨st1, hst, hris⟩, hfr⟩ := hrel
    have HRIS := Lib.hid hris; clear hris
    clear H3 FR3
    obtain ⟨c0, c1⟩ := two_cells (box_at hfr)
    have HST := Lib.hid hst; clear hst
    have HFR := Lib.hid hfr; clear hfr
    go_wp2_with fail
    refine (CL.out _).mono ?_
    rintro e w4 ⟨rfl, bl4⟩
    have fr4 := HFR.out.trans (Fr.of_bl bl4)
    have h4 := HST.out.bl bl4
    have FR4 := Lib.hid fr4; clear fr4
    have H4 := Lib.hid h4; clear h4 bl4 c0 c1
    by_cases hlt : q0 + j ≤ q1
    · have hltI : ((q0 + j : Nat) : Int) ≤ (q1 : Int) := by omega
      obtain ⟨x, hx⟩ : ∃ x, x = q0 + j := ⟨_, rfl⟩
      rw [← hx] at hltI ⊢
      have hxb : (x : Int) ≤ 67108864 := by omega
      have HX := Lib.hid hx; clear hx
      go_wp2_with fail
      refine (stamp_any H4.out x (by omega) (by omega) (less_new HS.out FR4.out.size _ (Nat.le_refl _))).mono ?_
      rintro e w5 ⟨rfl, ⟨st5, h5, hris5⟩, fr5⟩
      have HRIS5 := Lib.hid hris5; clear hris5
      have H5 := Lib.hid h5; clear h5
      have FR5 := Lib.hid fr5; clear fr5
      go_wp2_with fail
      refine ⟨⟨j + 1, by congr 1; have := HX.out; omega, by have := HX.out; omega, ⟨st5, H5.out, (HRIS.out.trans HRIS5.out).mono fun p hp => by
        have := HX.out
        by_cases e : p = x
        · exact .inr e
        · exact .inl (by omega)⟩, FR4.out.trans FR5.out⟩, ?_⟩
      simp only [intOf]
      have := HX.out
      omega
    · have hgt : (q1 : Int) < ((q0 + j : Nat) : Int) := by omega
      have hjj : j ≤ 4096 := by omega
      clear hlt
      go_wp2_with fail
      go_end0
      exact ⟨rfl, ⟨st1, (H4.out.among fun _ _ e => e.1).mono (by omega), HRIS.out.mono fun p hp => by omega⟩, FR4.out.unless⟩

/-! ### wipe -/
/-- Noughts from a place up to another one. -/
def wiped (M : Nat → Int) (a b : Nat) : Nat → Int := fun x => if a ≤ x ∧ x < b then 0 else M x
/-- A page is given back. -/
theorem SA.del {Y : Rest} {S : Nat → Prop} {w w' : World} {sb n k : Nat} {f : Nat → Option Nat} {M st : Nat → Int} {sm : Value} {B : Nat} {c l : Int} (h : SA Y S w sb n f k M st (.map (some B)) sm c l) {num : Nat} (hnum : num < 2 ^ 64) {ty : TypeId}
    (hd : (Builtin.delete_ #[60, 29] ty #[.map (some B), .int .u64 (num : Int)]).run Tryz.prog w = .ok (.tuple #[]) w') :
    ∃ k', SA Y S w' sb n (put1 f num none) k' (wiped M (num * 4096) (num * 4096 + 4096)) st (.map (some B)) sm c l ∧ k' + (if (f num).isSome then 1 else 0) = k ∧ Fr S w w' := by
  rcases h.pages with ⟨h0, _⟩ | ⟨B', h0, hSB, hpm⟩
  · cases h0
  cases h0
  obtain ⟨⟨k', hp, hk⟩, ht⟩ := hpm.del_of hnum hd
  have hg := ht.grown
  obtain ⟨_, es, q, hmap⟩ := h.pages.isMap rfl
  have other : ∀ x o, w.heap[x]? = some o → x ≠ B → w'.heap[x]? = some o := fun x o hx hne => by
    rw [hg.block x (lt_at hx) (fun e => hne (by injection e))]; exact hx
  have hcell : ∀ (x : Nat) (cs : Array Value) (t : TypeId) (fr : Nat × Nat), w.heap[x]? = some (.cells cs t fr) → w'.heap[x]? = some (.cells cs t fr) := fun x cs t fr hx =>
    other x _ hx (fun e => by rw [e, hmap] at hx; cases hx)
  refine ⟨k', ⟨hcell _ _ _ _ h.blk, h.own, h.lw, h.top, .inr ⟨B, rfl, hSB, hp⟩, ?_, h.apart, fun p b hb => ?_, fun p q b hp hq => ?_, fun p o hp ho => ?_, fun p b hb => ?_⟩, hk, Fr.grown hg (fun x hx => by cases hx; exact hSB)⟩
  · exact h.stamps.kept fun B1 hB1 => by
      obtain ⟨_, es1, q1, h2⟩ := h.stamps.isMap hB1
      rw [other _ _ h2 (fun e => by subst e; exact h.apart _ rfl hB1), h2]
  · by_cases e : p = num
    · subst e; rw [put1_same] at hb; cases hb
    · rw [put1_other _ _ _ e] at hb
      refine ⟨(h.at_ p b hb).1, ?_⟩
      rw [pageOf_other M _ p (fun o ho => by simp only [wiped]; rw [if_neg (by omega)])]
      exact hcell _ _ _ _ (h.at_ p b hb).2
  · by_cases e1 : p = num
    · subst e1; rw [put1_same] at hp; cases hp
    · by_cases e2 : q = num
      · subst e2; rw [put1_same] at hq; cases hq
      · rw [put1_other _ _ _ e1] at hp; rw [put1_other _ _ _ e2] at hq
        exact h.inj p q b hp hq
  · simp only [wiped]
    by_cases e : p = num
    · subst e; rw [if_pos (by omega)]
    · rw [if_neg (by omega)]
      rw [put1_other _ _ _ e] at hp; exact h.zero p o hp ho
  · by_cases e : p = num
    · subst e; rw [put1_same] at hb; cases hb
    · rw [put1_other _ _ _ e] at hb; exact h.lim p b hb
set_option maxHeartbeats 2000000 in
theorem wipe_none {Y : Rest} {S : Nat → Prop} {w : World} {sb n k : Nat} {f : Nat → Option Nat} {M st : Nat → Int} {pm sm : Value} {c l : Int} (h : SA Y S w sb n f k M st pm sm c l) (num : Nat) (hnum : num < 67108864) (A B : Int) (hA : 0 ≤ A) (hA1 : A ≤ (num : Int) * 4096) (hB1 : (num : Int) * 4096 + 4096 ≤ B) (hB : B ≤ 274877906944) (hf : f num = none) :
    Calls Tryz.prog 77 #[.pointer (some ⟨sb, 1, none⟩), .int .u64 (num : Int), span A B] w fun e w' => e = .returned (.tuple #[]) ∧ Bl w w' := by
  have h1 := h.bl (Bl.new w (box48 A B))
  have hlook := h1.pages.look (show num < 2 ^ 64 by omega)
  rw [hf] at hlook
  simp only [ptrOf, Option.map_none] at hlook
  obtain ⟨c0, c1, c2, c3⟩ := h1.cell
  obtain ⟨d0, d1⟩ := two_cells (heap_alloc_new w (box48 A B))
  have hz : (0 : Int) ≤ (num : Int) := by omega
  have hz1 : (num : Int) ≤ 67108864 := by omega
  generalize (num : Int) = x at *
  have hmx : ∀ W, (Builtin.max_ #[29, 29] 29 #[.int .u64 A, .int .u64 (x * 4096)]).run Tryz.prog W = .ok (.int .u64 (x * 4096)) W := fun W => by
    rw [max_run]; congr 2; split <;> omega
  have hmi : ∀ W, (Builtin.min_ #[29, 29] 29 #[.int .u64 B, .int .u64 (x * 4096 + 4096)]).run Tryz.prog W = .ok (.int .u64 (x * 4096 + 4096)) W := fun W => by
    rw [min_run]; congr 2; split <;> omega
  clear h1 h
  (try unfold addr0 at *); (try unfold span at *); (try unfold box48 at *)
  go_enter Tryz.func77, Tryz.ntmps77
  go_wp2_with fail
  (try simp only [Exit.inBlock, Exit.then]); refine bodyPost_ret (results_none rfl _ _ _) rfl ?_
  exact ⟨rfl, (Bl.new _ _).alloc _⟩
set_option maxHeartbeats 2000000 in
theorem wipe_some {Y : Rest} {S : Nat → Prop} {w : World} {sb n k : Nat} {f : Nat → Option Nat} {M st : Nat → Int} {pb : Nat} {sm : Value} {c l : Int} (h : SA Y S w sb n f k M st (.map (some pb)) sm c l) (num b : Nat) (hnum : num < 67108864) (A B : Int) (hA : 0 ≤ A) (hA1 : A ≤ (num : Int) * 4096) (hB1 : (num : Int) * 4096 + 4096 ≤ B) (hB : B ≤ 274877906944) (hf : f num = some b) :
    Calls Tryz.prog 77 #[.pointer (some ⟨sb, 1, none⟩), .int .u64 (num : Int), span A B] w fun e w' => e = .returned (.tuple #[]) ∧ ∃ w1, Bl w w1 ∧ (Builtin.delete_ #[60, 29] 0 #[.map (some pb), .int .u64 (num : Int)]).run Tryz.prog w1 = .ok (.tuple #[]) w' := by
  have h1 := h.bl (Bl.new w (box48 A B))
  have hlook := h1.pages.look (show num < 2 ^ 64 by omega)
  rw [hf] at hlook
  simp only [ptrOf, Option.map_some] at hlook
  obtain ⟨c0, c1, c2, c3⟩ := h1.cell
  obtain ⟨d0, d1⟩ := two_cells (heap_alloc_new w (box48 A B))
  have hz : (0 : Int) ≤ (num : Int) := by omega
  have hz1 : (num : Int) ≤ 67108864 := by omega
  have H := Lib.hid h; clear h1 h
  obtain ⟨x, hx⟩ : ∃ x : Int, x = (num : Int) := ⟨_, rfl⟩
  rw [← hx] at hA1 hB1 hlook hz hz1 ⊢
  have HX := Lib.hid hx; clear hx
  have hmx : ∀ W, (Builtin.max_ #[29, 29] 29 #[.int .u64 A, .int .u64 (x * 4096)]).run Tryz.prog W = .ok (.int .u64 (x * 4096)) W := fun W => by
    rw [max_run]; congr 2; split <;> omega
  have hmi : ∀ W, (Builtin.min_ #[29, 29] 29 #[.int .u64 B, .int .u64 (x * 4096 + 4096)]).run Tryz.prog W = .ok (.int .u64 (x * 4096 + 4096)) W := fun W => by
    rw [min_run]; congr 2; split <;> omega
  have ce := fun W => empty_any (x * 4096) (x * 4096 + 4096) W
  rw [decide_eq_false (by omega)] at ce
  have CE := Lib.hid ce; clear ce
  (try unfold addr0 at *); (try unfold span at *); (try unfold box48 at *)
  go_enter Tryz.func77, Tryz.ntmps77
  go_wp2_with fail
  refine (CE.out _).mono ?_
  rintro e w3 ⟨rfl, bl3⟩
  have blw := ((Bl.new w (.cells #[.int .u64 A, .int .u64 B] 113)).alloc (.cells #[.int .u64 (x * 4096), .int .u64 (x * 4096 + 4096)] 113)).trans bl3
  have hp := bl3.at_ (heap_alloc_new (w.alloc (.cells #[.int .u64 A, .int .u64 B] 113)) (.cells #[.int .u64 (x * 4096), .int .u64 (x * 4096 + 4096)] 113))
  rw [show (w.alloc (.cells #[.int .u64 A, .int .u64 B] 113)).heap.size = w.heap.size + 1 by simp] at hp
  have h3 := H.out.bl blw
  clear c0 c1 c2 c3 d0 d1 hlook hmx hmi bl3
  obtain ⟨d0, d1⟩ := two_cells hp
  obtain ⟨c0, c1, c2, c3⟩ := h3.cell
  obtain ⟨B', hB', _, hpm⟩ : ∃ B', Value.map (some pb) = .map (some B') ∧ S B' ∧ PM w3 B' n f k := by
    rcases h3.pages with ⟨h0, _⟩ | h0
    · cases h0
    · exact h0
  cases hB'
  obtain ⟨w4, hdel⟩ := hpm.del_run (show num < 2 ^ 64 by omega) 0
  have HDEL := Lib.hid hdel
  rw [← HX.out] at hdel
  have BLW := Lib.hid blw
  clear blw hp h3 hpm
  go_wp2_with fail
  (try simp only [Exit.inBlock, Exit.then]); refine bodyPost_ret (results_none rfl _ _ _) rfl ?_
  refine ⟨rfl, w3, BLW.out, ?_⟩
  rw [HX.out]
  exact HDEL.out
end Go.Proofs.YtbngjbmfkekdnaaGreatDoor

set_option linter.unusedVariables false
set_option linter.unusedSimpArgs false
namespace Go.Proofs.YtbngjbmfkekdnaaGreatDoor
open Go.RowKit
set_option maxRecDepth 100000
def topped (b : Int) : Int := if b ≤ 274877906944 then b else 274877906944
theorem pwithin_any (a b : Int) (w : World) : Calls Tryz.prog 71 #[.int .u64 a, .int .u64 b] w fun e w' => e = .returned (span a (topped b)) ∧ Bl w w' := by
  unfold topped
  split
  · exact pwithin_in a b w (by assumption)
  · exact pwithin_out a b w (by omega)
theorem wipe_any {Y : Rest} {S : Nat → Prop} {w : World} {sb n k : Nat} {f : Nat → Option Nat} {M st : Nat → Int} (h : StoreAt Y S w sb n f k M st) (num : Nat) (hnum : num < 67108864) (A B : Int) (hA : 0 ≤ A) (hA1 : A ≤ (num : Int) * 4096) (hB1 : (num : Int) * 4096 + 4096 ≤ B) (hB : B ≤ 274877906944) :
    Calls Tryz.prog 77 #[.pointer (some ⟨sb, 1, none⟩), .int .u64 (num : Int), span A B] w fun e w' => e = .returned (.tuple #[]) ∧ (∃ k', StoreAt Y S w' sb n (put1 f num none) k' (wiped M (num * 4096) (num * 4096 + 4096)) st ∧ k' + (if (f num).isSome then 1 else 0) = k) ∧ Fr S w w' := by
  obtain ⟨pm, sm, c, l, h⟩ := h
  rcases hf : f num with _ | b
  · refine (wipe_none h num hnum A B hA hA1 hB1 hB hf).mono ?_
    rintro e w' ⟨rfl, bl⟩
    have e1 : put1 f num none = f := by
      funext p; by_cases e : p = num
      · subst e; rw [put1_same, hf]
      · rw [put1_other _ _ _ e]
    have e2 : wiped M (num * 4096) (num * 4096 + 4096) = M := by
      funext x; simp only [wiped]
      split
      · have := h.zero num (x - num * 4096) hf (by omega)
        rw [show num * 4096 + (x - num * 4096) = x by omega] at this
        exact this.symm
      · rfl
    rw [e1, e2]
    exact ⟨rfl, ⟨k, ⟨_, _, _, _, h.bl bl⟩, by simp⟩, Fr.of_bl bl⟩
  · obtain ⟨pb, rfl⟩ : ∃ B, pm = .map (some B) := by
      rcases h.pages with ⟨_, h1, _⟩ | ⟨B, h0, _⟩
      · rw [h1 num] at hf; cases hf
      · exact ⟨B, h0⟩
    refine (wipe_some h num b hnum A B hA hA1 hB1 hB hf).mono ?_
    rintro e w' ⟨rfl, w1, bl, hd⟩
    obtain ⟨k', h1, h2, h3⟩ := (h.bl bl).del (show num < 2 ^ 64 by omega) hd
    rw [hf] at h2
    exact ⟨rfl, ⟨k', ⟨_, _, _, _, h1⟩, h2⟩, (Fr.of_bl bl).trans h3⟩
/-- How many of m pages from a on are held. -/
def hcnt (f : Nat → Option Nat) (a : Nat) : Nat → Nat
  | 0 => 0
  | m + 1 => hcnt f a m + (if (f (a + m)).isSome then 1 else 0)
/-- m pages from a on are given back. -/
def cut (f : Nat → Option Nat) (a m : Nat) : Nat → Option Nat := fun p => if a ≤ p ∧ p < a + m then none else f p
theorem cut_step (f : Nat → Option Nat) (a m : Nat) : put1 (cut f a m) (a + m) none = cut f a (m + 1) := by
  funext p
  by_cases e : p = a + m
  · subst e; rw [put1_same]; simp only [cut]; rw [if_pos (by omega)]
  · rw [put1_other _ _ _ e]; simp only [cut]
    by_cases h : a ≤ p ∧ p < a + m
    · rw [if_pos h, if_pos (by omega)]
    · rw [if_neg h, if_neg (by omega)]
theorem wiped_step (M : Nat → Int) (a m : Nat) : wiped (wiped M (a * 4096) ((a + m) * 4096)) ((a + m) * 4096) ((a + m) * 4096 + 4096) = wiped M (a * 4096) ((a + (m + 1)) * 4096) := by
  funext x
  simp only [wiped]
  by_cases h1 : (a + m) * 4096 ≤ x ∧ x < (a + m) * 4096 + 4096
  · rw [if_pos h1, if_pos (by omega)]
  · rw [if_neg h1]
    by_cases h2 : a * 4096 ≤ x ∧ x < (a + m) * 4096
    · rw [if_pos h2, if_pos (by omega)]
    · rw [if_neg h2, if_neg (by omega)]
set_option maxHeartbeats 2000000 in
theorem clear_empty {w : World} {sb : Nat} (a b : Int) (hab : topped b ≤ a) : Calls Tryz.prog 43 #[.pointer (some ⟨sb, 1, none⟩), .int .u64 a, .int .u64 b] w fun e w' => e = .returned (.tuple #[]) ∧ Bl w w' := by
  have cw := fun W => pwithin_any a b W
  have ce := fun W => empty_any a (topped b) W
  rw [decide_eq_true hab] at ce
  generalize topped b = c at *
  have CW := Lib.hid cw; clear cw
  have CE := Lib.hid ce; clear ce
  (try unfold addr0 at *); (try unfold span at *)
  go_enter Tryz.func43, Tryz.ntmps43
  go_wp2_with fail
  refine (CW.out _).mono ?_
  rintro e w1 ⟨rfl, bl1⟩
  go_wp2_with fail
  refine (CE.out _).mono ?_
  rintro e w2 ⟨rfl, bl2⟩
  go_wp2_with fail
  (try simp only [Exit.inBlock, Exit.then]); refine bodyPost_ret (results_none rfl _ _ _) rfl ?_
  exact ⟨rfl, (bl1.alloc _).trans bl2⟩
set_option maxHeartbeats 2000000 in
theorem clear_nil {w : World} (a b : Int) : Calls Tryz.prog 43 #[.pointer none, .int .u64 a, .int .u64 b] w fun e w' => e = .returned (.tuple #[]) ∧ Bl w w' := by
  have cw := fun W => pwithin_any a b W
  generalize topped b = c at *
  have CW := Lib.hid cw; clear cw
  (try unfold span at *)
  go_enter Tryz.func43, Tryz.ntmps43
  go_wp2_with fail
  refine (CW.out _).mono ?_
  rintro e w1 ⟨rfl, bl1⟩
  go_wp2_with fail
  (try simp only [Exit.inBlock, Exit.then]); refine bodyPost_ret (results_none rfl _ _ _) rfl ?_
  exact ⟨rfl, bl1.alloc _⟩
set_option maxHeartbeats 2000000 in
theorem touch_nil {w : World} (a b : Int) : Calls Tryz.prog 40 #[.pointer none, .int .u64 a, .int .u64 b] w fun e w' => e = .returned (.tuple #[]) ∧ Bl w w' := by
  have cw := fun W => pwithin_any a b W
  generalize topped b = c at *
  have CW := Lib.hid cw; clear cw
  (try unfold span at *)
  go_enter Tryz.func40, Tryz.ntmps40
  go_wp2_with fail
  refine (CW.out _).mono ?_
  rintro e w1 ⟨rfl, bl1⟩
  go_wp2_with fail
  (try simp only [Exit.inBlock, Exit.then]); refine bodyPost_ret (results_none rfl _ _ _) rfl ?_
  exact ⟨rfl, bl1.alloc _⟩
end Go.Proofs.YtbngjbmfkekdnaaGreatDoor
