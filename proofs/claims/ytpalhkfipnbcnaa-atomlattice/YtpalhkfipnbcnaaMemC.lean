/-
  Which places lack what is asked; faults; numbers that are loaded and stored; bytes that are peeked at.
-/
import Derived.Test.YtpalhkfipnbcnaaMemB
set_option linter.unusedVariables false
set_option linter.unusedSimpArgs false
namespace Go.Proofs.Ytpalhkfipnbcnaa
open Go.RowKit
set_option maxRecDepth 100000
theorem width_yes (n : Int) (w : World) (h : n = 1 ∨ n = 2 ∨ n = 4 ∨ n = 8) : Calls Try.prog 62 #[.int .i64 n] w fun x w' => x = .returned (.bool true) ∧ w = w' := by
  rcases h with rfl | rfl | rfl | rfl
  all_goals go_enter Try.func62, Try.ntmps62
  all_goals go_wp2
  all_goals go_ret
  all_goals exact ⟨rfl, rfl⟩
theorem width_no (n : Int) (w : World) (h : ¬ (n = 1 ∨ n = 2 ∨ n = 4 ∨ n = 8)) : Calls Try.prog 62 #[.int .i64 n] w fun x w' => x = .returned (.bool false) ∧ w = w' := by
  have t1 : (n == 1) = false := by simp; omega
  have t2 : (n == 2) = false := by simp; omega
  have t3 : (n == 4) = false := by simp; omega
  have t4 : (n == 8) = false := by simp; omega
  clear h
  go_enter Try.func62, Try.ntmps62
  go_wp2
  go_ret
  exact ⟨rfl, rfl⟩
theorem can_top {L : List Rg} (h : So 0 274877906944 L) {p x : Int} (hx : 274877906944 ≤ x) : ¬ Can L p x := fun ⟨q, hq, _⟩ => by have := h.range hq; omega
set_option maxHeartbeats 1000000 in
theorem lack_any {T : Nat → Prop} {w : World} {sb n0 : Nat} {L : List Rg} {M st : Nat → Int} {mo ba en : Int} (h : MS T w sb n0 L M st mo ba en) (a : Int) (n : Nat) (p : Int) (h0 : 0 ≤ a) (h1 : a ≤ 18446744073709551615) (hn : n ≤ 4194304) :
    Calls Try.prog 63 #[addr0 sb, .int .u64 a, .int .i64 (n : Int), .int .i64 p] w (FirstPost w L a (a + n) p) := by
  by_cases hc : 0 < n ∧ 274877906944 ≤ a
  · have hp : FirstPost w L a (a + n) p (.returned (.tuple #[.int .u64 a, .bool true])) w := ⟨a, true, rfl, .inl ⟨rfl, Int.le_refl _, by omega, can_top h.so hc.2, fun y h1 h2 => by omega⟩, Bl.refl _⟩
    have HP := Lib.hid hp; clear hp h
    obtain ⟨c1, c2⟩ := hc
    have c3 : (0 : Int) < (n : Int) := by omega
    unfold addr0
    go_enter Try.func63, Try.ntmps63
    go_wp2_with fail
    go_ret2
    exact HP.out
  · obtain ⟨X, hX⟩ := h.list
    have cf := first_any hX h.so a (a + n) p (by have := h.few; omega)
    have CF := Lib.hid cf; clear cf hX h
    have hw : IntKind.u64.wrap (a + n) = a + n := IntWalk.u64_in _ (by omega)
    unfold addr0 at *
    by_cases c1 : 0 < n
    · have c2 : a < 274877906944 := by omega
      have c3 : (0 : Int) < (n : Int) := by omega
      clear hc
      go_enter Try.func63, Try.ntmps63
      go_wp2_with fail
      refine CF.out.mono ?_
      rintro e w' ⟨x, ok, rfl, hh, k⟩
      have HH := Lib.hid hh; clear hh
      have K := Lib.hid k; clear k
      go_wp2_with fail
      go_ret2
      exact ⟨x, ok, rfl, HH.out, K.out⟩
    · obtain rfl : n = 0 := by omega
      clear hc c1 hw
      have hw : IntKind.u64.wrap a = a := IntWalk.u64_in _ (by omega)
      simp only [Int.natCast_zero, Int.ofNat_eq_natCast, Int.add_zero, Int.cast_ofNat_Int] at *
      go_enter Try.func63, Try.ntmps63
      go_wp2_with fail
      refine CF.out.mono ?_
      rintro e w' ⟨x, ok, rfl, hh, k⟩
      have HH := Lib.hid hh; clear hh
      have K := Lib.hid k; clear k
      go_wp2_with fail
      go_ret2
      exact ⟨x, ok, rfl, HH.out, K.out⟩
def faultV (k x : Int) : Value := .agg #[.int .i64 k, .int .u64 x]
/-- The fault of the first place that lacks p, or none. -/
def FaultPost (w : World) (L : List Rg) (kind a : Int) (n : Nat) (p : Int) (e : Ending) (w' : World) : Prop := ∃ k x, e = .returned (faultV k x) ∧
  ((k = kind ∧ a ≤ x ∧ x < a + n ∧ ¬ Can L p x ∧ ∀ y, a ≤ y → y < x → Can L p y) ∨ (k = 0 ∧ x = 0 ∧ ∀ y, a ≤ y → y < a + n → Can L p y)) ∧ Bl w w'
theorem new2 (w w1 : World) (x y : Value) (t : TypeId) (k : Bl (w.alloc (.cells #[x, y] t)) w1) : w1.heap[w.heap.size]? = some (.cells #[x, y] t (0, 0)) := k.at_ (heap_alloc_new w _)
theorem set2 {w : World} {g : Nat} {t : TypeId} {a b : Value} (x y : Value) (h : w.heap[g]? = some (.cells #[a, b] t (0, 0))) : ((w.setCell ⟨g, 0, none⟩ x).setCell ⟨g, 1, none⟩ y).heap[g]? = some (.cells #[x, y] t (0, 0)) := by
  have h1 := heap_setCell_same w g 0 _ t x h
  have h2 := heap_setCell_same (w.setCell ⟨g, 0, none⟩ x) g 1 _ t y h1
  rw [h2]; rfl
set_option maxHeartbeats 1000000 in
theorem fault_any {T : Nat → Prop} {w : World} {sb n0 : Nat} {L : List Rg} {M st : Nat → Int} {mo ba en : Int} (h : MS T w sb n0 L M st mo ba en) (kind a : Int) (n : Nat) (p : Int) (h0 : 0 ≤ a) (h1 : a ≤ 18446744073709551615) (hn : n = 1 ∨ n = 2 ∨ n = 4 ∨ n = 8) :
    Calls Try.prog 43 #[addr0 sb, .int .i64 kind, .int .u64 a, .int .i64 (n : Int), .int .i64 p] w (FaultPost w L kind a n p) := by
  have cw := fun W => width_yes (n : Int) W (by omega)
  have cl := lack_any (h.bl (Bl.new w (.cells #[.int .i64 0, .int .u64 0] 41))) a n p h0 h1 (by omega)
  have CW := Lib.hid cw; clear cw
  have CL := Lib.hid cl; clear cl hn h
  unfold addr0 at *
  go_enter Try.func43, Try.ntmps43
  go_wp2_with fail
  refine (CW.out _).mono ?_
  rintro e w' ⟨rfl, rfl⟩
  go_wp2_with fail
  refine CL.out.mono ?_
  rintro e w1 ⟨x, ok, rfl, hh, k⟩
  have hb := new2 w w1 _ _ _ k
  obtain ⟨d0, d1⟩ := two_cells hb
  have k1 := (Bl.new w (.cells #[.int .i64 0, .int .u64 0] 41)).trans k
  have f0 : ∀ i, w1.frozen? ⟨w.heap.size, i, none⟩ = false := fun i => by simp [World.frozen?, hb]
  have f00 := f0 0
  have f01 := f0 1
  have HB := Lib.hid hb; clear hb
  have K1 := Lib.hid k1; clear k1 k f0
  rcases hh with ⟨rfl, hh⟩ | ⟨rfl, hx, hh⟩
  · have HH := Lib.hid hh; clear hh
    go_wp2_with fail
    (try simp only [Exit.inBlock, Exit.then])
    refine bodyPost_ret (results_cell_row rfl _ _ w.heap.size 41 _ (0, 0) _ rfl (set2 _ _ HB.out) Try.underlying41 rfl (by kernel_rfl)) rfl ?_
    exact ⟨kind, x, rfl, .inl ⟨rfl, HH.out⟩, (K1.out.set (Nat.le_refl _) _).set (Nat.le_refl _) _⟩
  · have HH := Lib.hid hh; clear hh
    have HX := Lib.hid hx; clear hx
    go_wp2_with fail
    (try simp only [Exit.inBlock, Exit.then])
    refine bodyPost_ret (results_cell_row rfl _ _ w.heap.size 41 _ (0, 0) _ rfl (set2 _ _ HB.out) Try.underlying41 rfl (by kernel_rfl)) rfl ?_
    exact ⟨0, 0, rfl, .inr ⟨rfl, rfl, HH.out⟩, (K1.out.set (Nat.le_refl _) _).set (Nat.le_refl _) _⟩
set_option maxHeartbeats 1000000 in
theorem probe_any {T : Nat → Prop} {w : World} {sb n0 : Nat} {L : List Rg} {M st : Nat → Int} {mo ba en : Int} (h : MS T w sb n0 L M st mo ba en) (a : Int) (n : Nat) (h0 : 0 ≤ a) (h1 : a ≤ 18446744073709551615) (hn : n = 1 ∨ n = 2 ∨ n = 4 ∨ n = 8) :
    Calls Try.prog 39 #[addr0 sb, .int .u64 a, .int .i64 (n : Int)] w (FaultPost w L 2 a n 2) := by
  have cf := fault_any (h.bl (Bl.new w (.cells #[.int .i64 0, .int .u64 0] 41))) 2 a n 2 h0 h1 hn
  have CF := Lib.hid cf; clear cf h
  unfold addr0 at *
  go_enter Try.func39, Try.ntmps39
  go_wp2_with fail
  refine CF.out.mono ?_
  rintro e w1 ⟨k, x, rfl, hh, kk⟩
  have hb := new2 w w1 _ _ _ kk
  obtain ⟨d0, d1⟩ := two_cells hb
  have k1 := (Bl.new w (.cells #[.int .i64 0, .int .u64 0] 41)).trans kk
  have f0 : ∀ i, w1.frozen? ⟨w.heap.size, i, none⟩ = false := fun i => by simp [World.frozen?, hb]
  have f00 := f0 0
  have f01 := f0 1
  have HB := Lib.hid hb; clear hb
  have K1 := Lib.hid k1; clear k1 kk f0
  have HH := Lib.hid hh; clear hh
  unfold faultV
  go_wp2_with fail
  (try simp only [Exit.inBlock, Exit.then])
  refine bodyPost_ret (results_cell_row rfl _ _ w.heap.size 41 _ (0, 0) _ rfl (set2 _ _ HB.out) Try.underlying41 rfl (by kernel_rfl)) rfl ?_
  exact ⟨k, x, rfl, HH.out, (K1.out.set (Nat.le_refl _) _).set (Nat.le_refl _) _⟩
/-- Bytes of a block that was made anew. -/
theorem rd_row {w : World} {g : Nat} {xs : List Int} (h : w.heap[g]? = some (.cells (asBytes xs).toArray 5 (0, 0))) : Rd w (some ⟨g, 0, none⟩) xs := by
  intro h0
  refine ⟨_, rfl, fun i hi => ?_⟩
  have e1 : (⟨g, 0, none⟩ : Addr).add i = ⟨g, i, none⟩ := by unfold Addr.add; split <;> simp_all
  rw [e1, cell_of_row w g i _ 5 (0, 0) h]
  simp only [List.getElem?_toArray]
  rw [asBytes_at _ _ hi]
theorem bytesAt_bd {M : Nat → Int} (h : ∀ x, 0 ≤ M x ∧ M x ≤ 255) (a m : Nat) : ∀ k, 0 ≤ (bytesAt M a m).getD k 0 ∧ (bytesAt M a m).getD k 0 ≤ 255 := fun k => by
  rw [List.getD_eq_getElem?_getD]
  by_cases hk : k < m
  · rw [bytesAt_get _ _ _ _ hk]; exact h _
  · rw [List.getElem?_eq_none (by rw [bytesAt_length]; omega)]; simp
/-- The number that n bytes from a place on are. -/
def numAt (M : Nat → Int) (a n : Nat) : Int := getS (bytesAt M a n) n
set_option maxHeartbeats 1000000 in
theorem number_any {T : Nat → Prop} {w : World} {sb n0 : Nat} {L : List Rg} {M st : Nat → Int} {mo ba en : Int} (h : MS T w sb n0 L M st mo ba en) (a n : Nat) (ha : a < 2 ^ 64) (h1 : 1 ≤ n) (h8 : n ≤ 8) :
    Calls Try.prog 44 #[addr0 sb, .int .u64 (a : Int), .int .i64 (n : Int)] w fun e w' => e = .returned (.int .u64 (numAt M a n)) ∧ Bl w w' := by
  obtain ⟨rg, f, k0, h2, _, _⟩ := h.ex
  have cr := read_any h2 a n ha h1 (by omega)
  have hbd := bytesAt_bd h.by_ a n
  have hlen := bytesAt_length M a n
  have CR := Lib.hid cr; clear cr h2 h
  have HBD := Lib.hid hbd; clear hbd
  have HLEN := Lib.hid hlen; clear hlen
  unfold addr0 numAt
  go_enter Try.func44, Try.ntmps44
  go_wp2_with fail
  refine CR.out.mono ?_
  rintro e w1 ⟨rfl, hb, k1⟩
  have RD := Lib.hid (rd_row hb)
  have K1 := Lib.hid k1; clear k1 hb CR
  go_wp2_with fail
  refine (get_in _ n n _ n w1 RD.out HLEN.out (by omega) h1 h8 HBD.out).mono ?_
  rintro e w2 ⟨rfl, rfl⟩
  go_wp2_with fail
  go_ret
  exact ⟨rfl, K1.out⟩
theorem results_tmp_row {P : Program} {fn : Func} {p u : Tmp} {ty : TypeId} (h : fn.results = #[.tmp u, .cell p ty]) (tmps : Array Value) (w : World) (g : Nat) (t : TypeId) (cs : Array Value) (fr : Nat × Nat) (d : TypeDesc)
    (hp : tmps.getD p undef = .pointer (some ⟨g, 0, none⟩)) (hg : w.heap[g]? = some (.cells cs t fr))
    (hu : P.underlying ty = some d) (hd : (match d with | .struct _ | .array _ _ => true | _ => false) = true) (hi : (P.info? ty).map (·.size) = some cs.size) :
    (results fn tmps).run P w = .ok (.tuple #[tmps.getD u undef, .agg cs]) w := by
  have hp' : tmps[p]?.getD undef = .pointer (some ⟨g, 0, none⟩) := by simpa using hp
  simp [results, h, hp', asAddr, run_loadVar_row w g t ty cs fr d hg hu hd hi, Result.andThen]
/-- What a Load answers. -/
def LoadPost (w : World) (L : List Rg) (M : Nat → Int) (a n : Nat) (e : Ending) (w' : World) : Prop := ∃ y k x, e = .returned (.tuple #[.int .u64 y, faultV k x]) ∧
  ((k = 1 ∧ y = 0 ∧ (a : Int) ≤ x ∧ x < a + n ∧ ¬ Can L 1 x ∧ ∀ z, (a : Int) ≤ z → z < x → Can L 1 z) ∨ (k = 0 ∧ x = 0 ∧ y = numAt M a n ∧ ∀ z, (a : Int) ≤ z → z < a + n → Can L 1 z)) ∧ Bl w w'
set_option maxHeartbeats 1000000 in
theorem load_any {T : Nat → Prop} {w : World} {sb n0 : Nat} {L : List Rg} {M st : Nat → Int} {mo ba en : Int} (h : MS T w sb n0 L M st mo ba en) (a n : Nat) (ha : a < 2 ^ 64) (hn : n = 1 ∨ n = 2 ∨ n = 4 ∨ n = 8) :
    Calls Try.prog 20 #[addr0 sb, .int .u64 (a : Int), .int .i64 (n : Int)] w (LoadPost w L M a n) := by
  have cf := fault_any (h.bl (Bl.new w (.cells #[.int .i64 0, .int .u64 0] 41))) 1 a n 1 (by omega) (by omega) hn
  have cn := fun W (hW : Bl w W) => number_any (h.bl hW) a n ha (by omega) (by omega)
  have CF := Lib.hid cf; clear cf h
  have CN := Lib.hid cn; clear cn
  unfold addr0 at *
  go_enter Try.func20, Try.ntmps20
  go_wp2_with fail
  refine CF.out.mono ?_
  rintro e w1 ⟨k, x, rfl, hh, kk⟩
  have hb := new2 w w1 _ _ _ kk
  have k1 := (Bl.new w (.cells #[.int .i64 0, .int .u64 0] 41)).trans kk
  clear CF kk
  have HB := Lib.hid hb; clear hb
  have K1 := Lib.hid k1; clear k1
  unfold faultV
  rcases hh with ⟨hk, hh⟩ | ⟨hk, hx, hh⟩
  · subst hk
    have HH := Lib.hid hh; clear hh
    go_wp2_with fail
    have hb2 := (Bl.new w1 (.cells #[.int .i64 1, .int .u64 x] 41)).at_ HB.out
    obtain ⟨d0, d1⟩ := two_cells hb2
    obtain ⟨d2, d3⟩ := two_cells (heap_alloc_new w1 (.cells #[.int .i64 1, .int .u64 x] 41))
    have f0 : ∀ i, (w1.alloc (.cells #[.int .i64 1, .int .u64 x] 41)).frozen? ⟨w.heap.size, i, none⟩ = false := fun i => by simp [World.frozen?, hb2]
    have f00 := f0 0
    have f01 := f0 1
    have HB2 := Lib.hid hb2; clear hb2
    have K2 := Lib.hid (K1.out.alloc (.cells #[.int .i64 1, .int .u64 x] 41))
    clear HB K1 f0 CN
    generalize w1.alloc (.cells #[.int .i64 1, .int .u64 x] 41) = W at *
    go_region
    all_goals (
      (try go_wp2_with fail)
      (try simp only [Exit.inBlock, Exit.then])
      refine bodyPost_ret (results_tmp_row rfl _ _ w.heap.size 41 _ (0, 0) _ rfl (set2 _ _ HB2.out) Try.underlying41 rfl (by kernel_rfl)) rfl ?_
      exact ⟨0, 1, x, rfl, .inl ⟨rfl, rfl, HH.out⟩, (K2.out.drew.set (Nat.le_refl _) _).set (Nat.le_refl _) _⟩)
  · subst hk hx
    have HH := Lib.hid hh; clear hh
    go_wp2_with fail
    refine (CN.out _ (K1.out.alloc _)).mono ?_
    rintro e w2 ⟨rfl, k2⟩
    have hb2 := k2.at_ ((Bl.new w1 (.cells #[.int .i64 0, .int .u64 0] 41)).at_ HB.out)
    obtain ⟨d0, d1⟩ := two_cells hb2
    have f0 : ∀ i, w2.frozen? ⟨w.heap.size, i, none⟩ = false := fun i => by simp [World.frozen?, hb2]
    have f00 := f0 0
    have f01 := f0 1
    have HB2 := Lib.hid hb2; clear hb2
    have K2 := Lib.hid ((K1.out.alloc (.cells #[.int .i64 0, .int .u64 0] 41)).trans k2)
    clear HB K1 f0 CN k2
    go_wp2_with fail
    (try simp only [Exit.inBlock, Exit.then])
    refine bodyPost_ret (results_tmp_row rfl _ _ w.heap.size 41 _ (0, 0) _ rfl (set2 _ _ HB2.out) Try.underlying41 rfl (by kernel_rfl)) rfl ?_
    exact ⟨_, 0, 0, rfl, .inr ⟨rfl, rfl, rfl, HH.out⟩, (K2.out.set (Nat.le_refl _) _).set (Nat.le_refl _) _⟩
/-- The bytes that a Store lays. -/
def StoreMPost (T : Nat → Prop) (w : World) (sb n0 : Nat) (L : List Rg) (M st : Nat → Int) (mo ba en : Int) (a n : Nat) (x : Int) (e : Ending) (w' : World) : Prop := ∃ k y, e = .returned (faultV k y) ∧
  ((k = 2 ∧ (a : Int) ≤ y ∧ y < a + n ∧ ¬ Can L 2 y ∧ (∀ z, (a : Int) ≤ z → z < y → Can L 2 z) ∧ Bl w w') ∨
   (k = 0 ∧ y = 0 ∧ (∀ z, (a : Int) ≤ z → z < a + n → Can L 2 z) ∧ ∃ st', MS T w' sb (n0 + 9) L (lay M a (putB x n)) st' mo ba en ∧ Rise st st' (fun p => ∃ x, a ≤ x ∧ x < a + n ∧ p = x / 4096) ∧ Fr T w w'))
theorem lay_bd {M : Nat → Int} (h : ∀ x, 0 ≤ M x ∧ M x ≤ 255) {cs : List Int} (hc : ∀ k, 0 ≤ cs.getD k 0 ∧ cs.getD k 0 ≤ 255) (a : Nat) : ∀ x, 0 ≤ lay M a cs x ∧ lay M a cs x ≤ 255 := fun x => by
  simp only [lay]
  split
  · exact hc _
  · exact h x
theorem can_below {L : List Rg} (h : So 0 274877906944 L) {p : Int} {a n : Nat} (hc : ∀ z, (a : Int) ≤ z → z < a + n → Can L p z) (hn : 0 < n) : a + n ≤ 274877906944 := by
  rcases Nat.lt_or_ge 274877906944 (a + n) with h1 | h1
  · exact absurd (hc (max a 274877906944) (by omega) (by omega)) (can_top h (by omega))
  · exact h1
/-- A write into the space's store. -/
theorem mwrite_any {T : Nat → Prop} {w : World} {sb n0 : Nat} {L : List Rg} {M st : Nat → Int} {mo ba en : Int} (h : MS T w sb n0 L M st mo ba en) (a : Nat) (A : Option Addr) (len cap : Nat) (xs : List Int) (hr : Rd w A xs) (hl : xs.length = len) (hlc : len ≤ cap) (hb : ∀ k, 0 ≤ xs.getD k 0 ∧ xs.getD k 0 ≤ 255)
    (hA : 0 < len → ∀ ad, A = some ad → ¬ T ad.block) (ha : a + len ≤ 274877906944) (hlen : len ≤ 4194304) (hn : n0 < 90000000) (hT : ∀ b, w.heap.size ≤ b → T b) :
    Calls Try.prog 40 #[.pointer (some ⟨sb, 1, none⟩), .int .u64 (a : Int), .slice A len cap] w fun e w' => e = .returned (.tuple #[]) ∧ ∃ st', MS T w' sb (n0 + 3 * pagesOf a len) L (lay M a xs) st' mo ba en ∧ Rise st st' (fun p => ∃ x, a ≤ x ∧ x < a + len ∧ p = x / 4096) ∧ Fr T w w' := by
  obtain ⟨rg, f, k0, h1, h2, h3⟩ := h.ex
  have hroom : room a len = len := by unfold room; omega
  have cw := write_any h1 a A len cap xs hr hl hlc (fun h0 ad had e => hA h0 ad had e.1) (by omega) hlen hn (off_new h2 hT)
  rw [hroom, List.take_of_length_le (by omega)] at cw
  refine cw.mono ?_
  rintro e w' ⟨rfl, f', k', st', h4, hf, _, hr4⟩
  rw [hl] at h4 hr4
  refine ⟨rfl, st', h.stored h2 h3 h4 hf (lay_bd h.by_ hb a), hr4.mono fun p hp => ?_, hf.off_of⟩
  obtain ⟨x, x1, x2, rfl⟩ := hp
  unfold pagesOf
  rw [if_neg (by omega)]
  omega
end Go.Proofs.Ytpalhkfipnbcnaa
