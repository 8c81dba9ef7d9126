/-
  Read: the bytes from a place on.
-/
import Derived.Test.YtpalhkfipnbcnaaPageD
set_option linter.unusedVariables false
set_option linter.unusedSimpArgs false
namespace Go.Proofs.Ytpalhkfipnbcnaa
open Go.RowKit
set_option maxRecDepth 100000
/-- m bytes from a place on. -/
def bytesAt (M : Nat → Int) (addr m : Nat) : List Int := (List.range m).map fun i => M (addr + i)
theorem bytesAt_length (M : Nat → Int) (addr m : Nat) : (bytesAt M addr m).length = m := by simp [bytesAt]
theorem bytesAt_get (M : Nat → Int) (addr m i : Nat) (h : i < m) : (bytesAt M addr m)[i]? = some (M (addr + i)) := by simp [bytesAt, List.getElem?_range h]
theorem bytesAt_add (M : Nat → Int) (addr t d : Nat) : bytesAt M addr (t + d) = bytesAt M addr t ++ bytesAt M (addr + t) d := by
  simp only [bytesAt, List.range_add, List.map_append, List.map_map]
  congr 1
  apply List.map_congr_left
  intro i _
  simp [Nat.add_assoc]
theorem bytesAt_zero (M : Nat → Int) (addr d : Nat) (h : ∀ i, i < d → M (addr + i) = 0) : bytesAt M addr d = List.replicate d 0 := by
  apply List.ext_getElem?
  intro i
  by_cases hi : i < d
  · rw [bytesAt_get _ _ _ _ hi, h i hi, List.getElem?_replicate, if_pos hi]
  · rw [List.getElem?_eq_none (by rw [bytesAt_length]; omega), List.getElem?_eq_none (by simp; omega)]
theorem made_bytes (n : Nat) : madeCells #[.int .u8 0] n = (asBytes (List.replicate n 0)).toArray := by
  apply Array.ext
  · simp [madeCells, asBytes]
  · intro i h1 h2
    simp [madeCells, asBytes, Nat.mod_one]
theorem made29 (m : Nat) (hm : m ≤ 4194304) (w : World) : (Instr.makeSlice 30 (.int .i64 (m : Int)) (.int .i64 (m : Int))).run Try.prog w = .ok (.slice (some ⟨w.heap.size, 0, none⟩) m m) (w.alloc (.cells (asBytes (List.replicate m 0)).toArray 5)) := by
  obtain ⟨i0, hi0, hz0, hz1, hz2⟩ := info_parts infoByte
  have h := run_make (P := Try.prog) w 30 5 i0 (.int .u8 0) Try.underlying30 hi0 hz0 .i64 .i64 m m (by omega) (by omega) (by rw [hz2]; omega) (by omega)
  rw [← made_bytes]
  simpa [hz1, Value.cells] using h
/-- The block of what is read, at t bytes. -/
def part (M : Nat → Int) (addr m t : Nat) : List Int := bytesAt M addr t ++ List.replicate (m - t) 0
theorem part_length (M : Nat → Int) (addr m t : Nat) (h : t ≤ m) : (part M addr m t).length = m := by simp [part, bytesAt_length]; omega
theorem part_zero (M : Nat → Int) (addr m t d : Nat) (h : t + d ≤ m) (hz : ∀ i, i < d → M (addr + t + i) = 0) : part M addr m (t + d) = part M addr m t := by
  unfold part
  rw [bytesAt_add, bytesAt_zero M (addr + t) d hz, List.append_assoc, List.replicate_append_replicate]
  congr 2; omega
theorem part_copy (M : Nat → Int) (addr m t d : Nat) (h : t + d ≤ m) : splice (part M addr m t) t (bytesAt M (addr + t) d) = part M addr m (t + d) := by
  have e1 : (part M addr m t).take t = bytesAt M addr t := by
    unfold part; rw [List.take_append_of_le_length (by rw [bytesAt_length]; exact Nat.le_refl _)]; exact List.take_of_length_le (by rw [bytesAt_length]; exact Nat.le_refl _)
  have e2 : (part M addr m t).drop (t + d) = List.replicate (m - (t + d)) 0 := by
    unfold part
    rw [List.drop_append, List.drop_of_length_le (by rw [bytesAt_length]; omega), List.nil_append, List.drop_replicate, bytesAt_length]
    congr 1; omega
  simp only [splice, bytesAt_length, e1, e2]
  unfold part
  rw [bytesAt_add, List.append_assoc]
theorem StoreAt.beyond {Y : Rest} {S : Nat → Prop} {w : World} {sb n k : Nat} {f : Nat → Option Nat} {M st : Nat → Int} (h : StoreAt Y S w sb n f k M st) (a : Nat) (ha : 274877906944 ≤ a) : M a = 0 := by
  obtain ⟨pm, sm, c, l, h⟩ := h
  have h1 : f (a / 4096) = none := by
    rcases e : f (a / 4096) with _ | b
    · rfl
    · have := h.lim _ _ e; omega
  have := h.zero (a / 4096) (a % 4096) h1 (by omega)
  rwa [show a / 4096 * 4096 + a % 4096 = a by omega] at this
theorem SA.readRun {Y : Rest} {S : Nat → Prop} {w w0 : World} {sb n k : Nat} {f : Nat → Option Nat} {M st : Nat → Int} {pm sm : Value} {c l : Int} (h : SA Y S w sb n f k M st pm sm c l) {num b off : Nat} (hb : f num = some b) (g t dn dc m addr : Nat)
    (hg : w.heap[g]? = some (.cells (asBytes (part M addr m t)).toArray 5 (0, 0))) (ht : t + dn ≤ m) (hoff : off + dn ≤ 4096) (he : num * 4096 + off = addr + t) (hbl : Bl w0 w) (hg0 : w0.heap.size ≤ g) (ty : TypeId) :
    ∃ w', (Builtin.copy_ #[30, 30] ty #[.slice (some ⟨g, t, none⟩) dn dc, .slice (some ⟨b, off, none⟩) (4096 - off) (4096 - off)]).run Try.prog w = .ok (.int .i64 (dn : Int)) w' ∧
      w'.heap[g]? = some (.cells (asBytes (part M addr m (t + dn))).toArray 5 (0, 0)) ∧ Bl w0 w' := by
  have hbb := (h.at_ num b hb).2
  have hcl : (asBytes (bytesAt M (addr + t) dn)).length = dn := by rw [asBytes_length, bytesAt_length]
  have hrun := run_copy_row (P := Try.prog) w 30 30 ty 5 g t dn dc ⟨b, off, none⟩ (4096 - off) (4096 - off) _ 5 (asBytes (bytesAt M (addr + t) dn)) Try.underlying30 sizeByte hg (by rw [hcl]; exact (Nat.min_eq_right (by omega)).symm) (fun j v hj => by
    obtain ⟨h1, rfl⟩ := asBytes_get _ _ _ hj
    rw [bytesAt_length] at h1
    have e1 : (⟨b, off, none⟩ : Addr).add j = ⟨b, off + j, none⟩ := by unfold Addr.add; split <;> simp_all
    rw [e1, cell_of_row w b (off + j) _ 115 (0, 0) hbb]
    simp only [List.getElem?_toArray]
    rw [asBytes_at _ _ (by rw [pageOf_length]; omega), List.getD_eq_getElem?_getD, pageOf_get _ _ _ (by omega), List.getD_eq_getElem?_getD, bytesAt_get _ _ _ _ h1]
    have e2 : num * 4096 + (off + j) = addr + t + j := by omega
    rw [e2]) (by rw [hcl, List.size_toArray, asBytes_length, part_length _ _ _ _ (by omega)]; exact ht) (bytes_one _)
  rw [hcl] at hrun
  refine ⟨_, hrun, ?_, below_setRow hbl hg0 _⟩
  rw [setRow_heap w g _ _ 5 _ hg, ← part_copy M addr m t dn ht]
  simp only [splice, asBytes, List.map_append, List.map_take, List.map_drop, bytesAt_length, List.append_assoc]
theorem slice29to (A : Option Addr) (len cap k : Nat) (h : k ≤ cap) (w : World) : (Instr.sliceAt 30 (.slice A len cap) none (some (.int .i64 (k : Int))) none).run Try.prog w = .ok (.slice A k cap) w := by
  obtain ⟨i0, hi0, hz0, hz1, hz2⟩ := info_parts infoByte
  have hA : A.map (fun a => a.add 0) = A := by cases A <;> simp [Addr.add]
  have h1 : (0 : Int) ≤ (k : Int) ∧ (k : Int) ≤ (cap : Int) := by omega
  simp [Instr.sliceAt, Instr.slice, run_underlying Try.underlying30, Instr.sliceBounds, Instr.sliceBound, asIntOf, sizeOf, typeInfo, hi0, hz1, Result.andThen]
  rw [if_pos h]
  simp [hA]
section
variable {P : Program} (w : World) {ops : Array Oper} {rest : List Oper} {o : Oper} {a : Act} {Q : Exit → Act → World → Prop}
theorem wpl_copy_run {w1 : World} (hg : o.guard = none) (d s : Operand) (dT sT : TypeId) (ho : o.op = .call { callee := .builtin .copy, args := #[d, s], argTypes := #[dT, sT] }) (vd vs v1 : Value) (hd : a.eval d = vd) (hs : a.eval s = vs)
    (hrun : (Builtin.copy_ #[dT, sT] o.type #[vd, vs]).run P w = .ok v1 w1) (hK : wpList P ops Q rest (a.put o.dst v1) w1) : wpList P ops Q (o :: rest) a w := by
  refine wpList_plain hg fun K hK' => ?_
  unfold Oper.wp
  simp [execOp, ho, resolve, invoke, builtin, hd, hs, hrun, Result.andThen]
  exact hK' _ _ hK
end
/-- What a Read leaves. -/
def ReadPost (w : World) (M : Nat → Int) (addr m : Nat) (e : Ending) (w' : World) : Prop :=
  e = .returned (.slice (some ⟨w.heap.size, 0, none⟩) m m) ∧ w'.heap[w.heap.size]? = some (.cells (asBytes (bytesAt M addr m)).toArray 5 (0, 0)) ∧ Bl w w'
set_option maxHeartbeats 4000000 in
theorem read_any {Y : Rest} {S : Nat → Prop} {w : World} {sb n k : Nat} {f : Nat → Option Nat} {M st : Nat → Int} (h : StoreAt Y S w sb n f k M st) (addr m : Nat) (ha : addr < 2 ^ 64) (hm1 : 1 ≤ m) (hm : m ≤ 4194304) :
    Calls Try.prog 37 #[.pointer (some ⟨sb, 1, none⟩), .int .u64 (addr : Int), .int .i64 (m : Int)] w (ReadPost w M addr m) := by
  have cb := fun W => below_any addr m W (by omega)
  have hroom : room addr m ≤ m := Nat.min_le_left _ _
  have hrin : room addr m ≤ 274877906944 - addr := Nat.min_le_right _ _
  have hrz : room addr m < m → 274877906944 ≤ addr + room addr m := by unfold room; omega
  generalize room addr m = R at *
  have hx0 : (0 : Int) ≤ (addr : Int) := by omega
  have hx1 : (addr : Int) ≤ 18446744073709551615 := by omega
  have hlI : (m : Int) ≤ 4194304 := by omega
  have hl1 : (1 : Int) ≤ (m : Int) := by omega
  have hRl : (R : Int) ≤ (m : Int) := by omega
  have hmk := fun W => made29 m hm W
  have HA := Lib.hid ha; clear ha
  have HRI := Lib.hid hrin; clear hrin
  have HRZ := Lib.hid hrz; clear hrz
  have HH := Lib.hid h; clear h
  have CB := Lib.hid cb; clear cb
  (try unfold addr0)
  obtain ⟨x, hx⟩ : ∃ x : Int, x = (addr : Int) := ⟨_, rfl⟩
  rw [← hx] at hx0 hx1 CB ⊢
  have HX := Lib.hid hx; clear hx
  go_enter Try.func37, Try.ntmps37
  go_wp2_with fail
  refine (CB.out _).mono ?_
  rintro e w' ⟨rfl, rfl⟩
  go_wp2_with fail
  clear hmk CB hx0 hx1
  have h0 : Bl w (w.alloc (.cells (asBytes (List.replicate m 0)).toArray 5)) := Bl.new _ _
  have hg0 : (w.alloc (.cells (asBytes (List.replicate m 0)).toArray 5)).heap[w.heap.size]? = some (.cells (asBytes (part M addr m 0)).toArray 5 (0, 0)) := by
    rw [heap_alloc_new]; simp [part, bytesAt]
  have H0 := Lib.hid h0; clear h0
  have HG0 := Lib.hid hg0; clear hg0
  generalize w.alloc (.cells (asBytes (List.replicate m 0)).toArray 5) = W at *
  go_loopw [1, 8, 9, 10] (fun v1 v8 _ _ wr => ∃ (t : Nat) (B : Option Addr), v1 = .int .u64 ((addr + t : Nat) : Int) ∧ v8 = .slice B (R - t) (m - t) ∧ (t < R → B = some ⟨w.heap.size, t, none⟩) ∧ t ≤ R ∧ wr.heap[w.heap.size]? = some (.cells (asBytes (part M addr m t)).toArray 5 (0, 0)) ∧ Bl w wr) (fun _ v8 _ _ _ => lenV v8)
  case atStart => exact ⟨0, _, by rw [HX.out]; rfl, rfl, fun _ => rfl, Nat.zero_le _, HG0.out, H0.out⟩
  case round =>
    obtain ⟨t, B, rfl, rfl, hB, htR, hg, hbl⟩ := hrel
    clear HX
    have HG := Lib.hid hg; clear hg
    have HBL := Lib.hid hbl; clear hbl
    by_cases hlt : t < R
    · obtain rfl := hB hlt
      clear hB
      have hrlI : (0 : Int) < ((R - t : Nat) : Int) := by omega
      obtain ⟨num, hnum⟩ : ∃ num, num = (addr + t) / 4096 := ⟨_, rfl⟩
      obtain ⟨off, hoff⟩ : ∃ off, off = (addr + t) % 4096 := ⟨_, rfl⟩
      obtain ⟨x, hx⟩ : ∃ x : Int, x = ((addr + t : Nat) : Int) := ⟨_, rfl⟩
      obtain ⟨dn, hdn⟩ : ∃ dn, dn = min (R - t) (4096 - off) := ⟨_, rfl⟩
      have hxn : x / 4096 = (num : Int) := by omega
      have hxo : x % 4096 = (off : Int) := by omega
      have hx0 : 0 ≤ x := by omega
      have hx1 : x ≤ 274877906944 := by have := HRI.out; omega
      have ho : (off : Int) < 4096 := by omega
      have hd0 : (0 : Int) ≤ (dn : Int) := by omega
      have hdx : x + (dn : Int) ≤ 274877906944 := by have := HRI.out; omega
      have hdR : (dn : Int) ≤ ((R - t : Nat) : Int) := by omega
      have hdm : (dn : Int) ≤ ((m - t : Nat) : Int) := by omega
      have hmn : ∀ W', (Builtin.min_ #[3, 3] 3 #[.int .i64 ((R - t : Nat) : Int), .int .i64 (4096 - (off : Int))]).run Try.prog W' = .ok (.int .i64 (dn : Int)) W' := by
        intro W'
        rw [min_run]
        congr 2
        split <;> omega
      have hSA := HH.out.bl HBL.out
      obtain ⟨pm, sm, c, l, hSA⟩ := hSA
      obtain ⟨c0, c1, c2, c3⟩ := hSA.cell
      have hlook := hSA.pages.look (show num < 2 ^ 64 by have := HRI.out; omega)
      rw [← hx]
      have HX := Lib.hid hx; clear hx
      have HNUM := Lib.hid hnum; clear hnum
      have HOFF := Lib.hid hoff; clear hoff
      have HDN := Lib.hid hdn; clear hdn
      have HSA := Lib.hid hSA; clear hSA
      rcases hb : f num with _ | b
      · rw [hb] at hlook
        simp only [ptrOf, Option.map_none] at hlook
        have HB := Lib.hid hb; clear hb
        go_wp2_with fail
        have hd2 : dn ≤ R - t := by omega
        have hd3 : 0 < dn := by have := HDN.out; have := HOFF.out; omega
        refine ⟨⟨t + dn, (if m - t = dn then some ⟨w.heap.size, t, none⟩ else some ⟨w.heap.size, t + dn, none⟩), ?_, ?_, fun hlt2 => ?_, by omega, ?_, HBL.out⟩, ?_⟩
        · rw [HX.out]; congr 1; omega
        · congr 1 <;> omega
        · rw [if_neg (by omega)]
        · rw [part_zero M addr m t dn (by omega) (fun i hi => ?_)]
          · exact HG.out
          · have h1 := HSA.out.zero num (off + i) HB.out (by have := HDN.out; omega)
            have h2 : num * 4096 + (off + i) = addr + t + i := by have := HNUM.out; have := HOFF.out; omega
            rwa [h2] at h1
        · simp only [lenV]; omega
      · rw [hb] at hlook
        simp only [ptrOf, Option.map_some] at hlook
        have HB := Lib.hid hb; clear hb
        have hoffN : off < 4096 := by omega
        have hsl := slice53 b off hoffN
        have hs2 := slice29to (some ⟨w.heap.size, t, none⟩) (R - t) (m - t) dn (by omega)
        go_wp2_with fail
        have hxt : x.tmod 4096 = (off : Int) := by rw [Int.tmod_eq_emod_of_nonneg hx0]; exact hxo
        go_still_tail 8, (by kernel_rfl)
        change wpList _ _ _ _ _ wr.drew
        have hd2 : dn ≤ R - t := by omega
        have hd3 : 0 < dn := by have := HDN.out; have := HOFF.out; omega
        obtain ⟨w2, hcp, hg2, hbl2⟩ := (HSA.out.bl (Bl.refl wr).drew).readRun (off := off) HB.out w.heap.size t dn (m - t) m addr HG.out (by omega) (by have := HDN.out; omega) (by have := HNUM.out; have := HOFF.out; omega) HBL.out.drew (Nat.le_refl _) 3
        have HG2 := Lib.hid hg2; clear hg2
        have HBL2 := Lib.hid hbl2; clear hbl2
        refine wpl_copy_run _ rfl (.tmp 49) (.tmp 54) 30 30 rfl _ _ _ rfl rfl hcp ?_
        clear hcp hxt hs2 hsl hlook c0 c1 c2 c3 hmn
        go_wp2_with fail
        refine ⟨⟨t + dn, (if m - t = dn then some ⟨w.heap.size, t, none⟩ else some ⟨w.heap.size, t + dn, none⟩), ?_, ?_, fun hlt2 => ?_, by omega, HG2.out, HBL2.out⟩, ?_⟩
        · rw [HX.out]; congr 1; omega
        · congr 1 <;> omega
        · rw [if_neg (by omega)]
        · simp only [lenV]; omega
    · have ht : t = R := by omega
      have HT := Lib.hid ht
      have h0 : R - t = 0 := by omega
      rw [h0]
      clear ht hlt h0 hB
      go_wp2_with fail
      go_ret
      refine ⟨rfl, ?_, HBL.out⟩
      have e : part M addr m t = bytesAt M addr m := by
        have e1 := HRZ.out
        rw [HT.out]
        obtain ⟨d, hd⟩ : ∃ d, m = R + d := ⟨m - R, by omega⟩
        have e2 : part M addr m (R + d) = part M addr m R := part_zero M addr m R d (by omega) (fun i hi => HH.out.beyond _ (by omega))
        rw [← e2, ← hd]
        simp [part]
      rw [← e]
      exact HG.out
theorem read_none {w : World} {sb : Nat} (x n : Int) (hn : n < 1 ∨ 4194304 < n) : Calls Try.prog 37 #[.pointer (some ⟨sb, 1, none⟩), .int .u64 x, .int .i64 n] w fun e w' => e = .returned (.slice none 0 0) ∧ w = w' := by
  (try unfold addr0)
  rcases hn with hn | hn
  · go_enter Try.func37, Try.ntmps37
    go_wp2
    go_ret
    exact ⟨rfl, rfl⟩
  · have hn2 : 1 ≤ n := by omega
    go_enter Try.func37, Try.ntmps37
    go_wp2
    go_ret
    exact ⟨rfl, rfl⟩
theorem read_nil {w : World} (x n : Int) : Calls Try.prog 37 #[.pointer none, .int .u64 x, .int .i64 n] w fun e w' => e = .returned (.slice none 0 0) ∧ w = w' := by
  go_enter Try.func37, Try.ntmps37
  go_wp2
  go_ret
  exact ⟨rfl, rfl⟩
end Go.Proofs.Ytpalhkfipnbcnaa
