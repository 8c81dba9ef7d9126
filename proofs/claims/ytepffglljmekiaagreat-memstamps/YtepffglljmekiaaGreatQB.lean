/-
  A region that draws its order, whose last operations wait for all the others: the head in whatever order, loads first, then the tail as it stands. No program in sight.
  The walk of MemStamps.
-/
import Derived.StillTail
import Derived.OrdersHeld
import Derived.Deep.RegionHeld
import Derived.Test.YtepffglljmekiaaGreatQA
set_option linter.unusedVariables false
namespace Go.Proofs.YtepffglljmekiaaGreat
open Go

section
variable {P : Program} {ops : Array Oper} {Q : Exit → Act → World → Prop} {md : Region.Mode} {S : World → Prop} {n : Nat} {L : Act → World → Prop}

/-- The head's operations in whatever order, S behind each; behind them L. -/
def wpHd (P : Program) (md : Region.Mode) (ops : Array Oper) (Q : Exit → Act → World → Prop) (S : World → Prop) (n : Nat) (L : Act → World → Prop) : Nat → Array Bool → Act → World → Prop
  | 0, listed, a, w => Region.seqB md ops (ops.size - n) n listed = true ∧ L a w
  | f + 1, listed, a, w => Region.ready md ops listed ≠ [] ∧ ∀ i ∈ Region.ready md ops listed, i < n ∧ wpOp P ops Q i (fun a' w' => S w' ∧ wpHd P md ops Q S n L f (listed.setIfInBounds i true) a' w') a w

theorem wpAny_of_hd (hL : ∀ listed a w, Region.seqB md ops (ops.size - n) n listed = true → L a w → wpAny P md ops Q (ops.size - n) listed a w) :
    ∀ (f : Nat) (listed : Array Bool) (a : Act) (w : World), wpHd P md ops Q S n L f listed a w → wpAny P md ops Q (f + (ops.size - n)) listed a w
  | 0, listed, a, w, h => by rw [Nat.zero_add]; exact hL _ _ _ h.1 h.2
  | f + 1, listed, a, w, h => by
    rw [show f + 1 + (ops.size - n) = (f + (ops.size - n)) + 1 by omega]
    exact ⟨fun h0 => absurd h0 h.1, fun i hi => wpOp_mono (fun a' w' h' => wpAny_of_hd hL f _ a' w' h'.2) (h.2 i hi).2⟩

theorem wpHd_first {i : Nat} {oi : Oper} {v : Value} (hi : ops[i]? = some oi) (hsel : ∀ (j : Nat) (o : Oper) cs b, ops[j]? = some o → o.op ≠ .select cs b)
    (hQ : ∀ c a w, Q (.panic c) (a.put oi.dst v) w → Q (.panic c) a w)
    (hs : Region.sinkB md ops n = true) (hc : Region.chainB md ops n = true) (hn : n < ops.size) (hin : i < n) :
    ∀ (f : Nat) (listed : Array Bool) (a : Act) (w : World), HeadInv md ops n listed →
      (∀ j oj, ops[j]? = some oj → j ≠ i → listed.getD j true = false → (∀ e ∈ oj.after, Region.binds md e = true → e.on ≠ i) → oi.apart ops oj = true) →
      i ∈ Region.ready md ops listed → YieldsIf P ops S oi v a → S w →
      wpHd P md ops Q S n L f (listed.setIfInBounds i true) (a.put oi.dst v) w → wpHd P md ops Q S n L (f + 1) listed a w := by
  intro f
  induction f with
  | zero =>
    intro listed a w inv _ hr hy hS H
    have hun := (mem_ready.1 hr).1
    refine ⟨fun h => (by rw [h] at hr; cases hr), fun j hj => ?_⟩
    have hjn : j < n := by
      rcases Nat.lt_or_ge j n with h | h
      · exact h
      · exact absurd hj (tail_waits hs hc hn inv _ i rfl hin hun j h)
    refine ⟨hjn, ?_⟩
    by_cases hji : j = i
    · subst hji; exact hy.wpOp hi hS ⟨hS, H⟩
    · have := seqB_ready H.1 j (ready_mono hj hji)
      omega
  | succ f ih =>
    intro listed a w inv hfree hr hy hS H
    have hun := (mem_ready.1 hr).1
    refine ⟨fun h => (by rw [h] at hr; cases hr), fun j hj => ?_⟩
    have hjn : j < n := by
      rcases Nat.lt_or_ge j n with h | h
      · exact h
      · exact absurd hj (tail_waits hs hc hn inv _ i rfl hin hun j h)
    refine ⟨hjn, ?_⟩
    by_cases hji : j = i
    · subst hji; exact hy.wpOp hi hS ⟨hS, H⟩
    · have h1 := (H.2 j (ready_mono hj hji)).2
      obtain ⟨hjun, oj, hoj, hall⟩ := mem_ready.1 hj
      have hnot : ∀ e ∈ oj.after, Region.binds md e = true → e.on ≠ i := fun e he hb heq => by
        have h1 := hall e he hb
        rw [heq, getD_both hun] at h1
        cases h1
      have h2 := wpOp_putIf hoj (hfree j oj hoj hji hjun hnot) (fun cs b => hsel i oi cs b hi) (fun cs b => hsel j oj cs b hoj) hQ hy h1
      have hfree' : ∀ k ok, ops[k]? = some ok → k ≠ i → (listed.setIfInBounds j true).getD k true = false →
          (∀ e ∈ ok.after, Region.binds md e = true → e.on ≠ i) → oi.apart ops ok = true := fun k ok hk hki hun hno => by
        refine hfree k ok hk hki ?_ hno
        by_cases hjk : j = k
        · subst hjk; exact hjun
        · rw [getD_set_ne true hjk] at hun; exact hun
      refine wpOp_mono (fun a' w' h3 => ⟨h3.2.1, ih (listed.setIfInBounds j true) a' w' (inv.set hj hjn) hfree' (ready_mono hr (Ne.symm hji)) h3.1 h3.2.1 ?_⟩) h2
      rw [Array.setIfInBounds_comm _ _ hji]
      exact h3.2.2

/-- What is listed is listed with all that it waits for; nothing of the tail is. -/
def headB (md : Region.Mode) (ops : Array Oper) (n : Nat) (listed : Array Bool) : Bool :=
  decide (listed.size = ops.size) &&
  ((List.range ops.size).all fun j => !(listed.getD j false) || match ops[j]? with | some oj => oj.after.all fun e => !(Region.binds md e) || listed.getD e.on false | none => true) &&
  ((List.range ops.size).all fun t => decide (t < n) || !(listed.getD t true))
theorem headB_spec {listed : Array Bool} (h : headB md ops n listed = true) : HeadInv md ops n listed := by
  simp only [headB, Bool.and_eq_true, decide_eq_true_eq, List.all_eq_true, List.mem_range] at h
  obtain ⟨⟨h1, h2⟩, h3⟩ := h
  refine ⟨h1, fun j oj hj hl e he hb => ?_, fun t ht ht' => ?_⟩
  · have := h2 j (Array.getElem?_eq_some_iff.1 hj).1
    rw [hl, hj] at this
    have h5 : (oj.after.all fun e => !(Region.binds md e) || listed.getD e.on false) = true := by simpa only [Bool.not_true, Bool.false_or] using this
    have h4 := Array.all_eq_true_iff_forall_mem.1 h5 e he
    rw [hb] at h4
    simpa only [Bool.not_true, Bool.false_or] using h4
  · have := h3 t ht'
    simp only [Bool.or_eq_true, decide_eq_true_eq, Bool.not_eq_true'] at this
    rcases this with h | h
    · omega
    · exact h

/-- The tail waits, the region chooses nothing, the listed are closed: what each take asks of the text alone. -/
def takeB (md : Region.Mode) (ops : Array Oper) (n : Nat) (listed : Array Bool) (i : Nat) : Bool :=
  Region.noSelect ops && Region.sinkB md ops n && Region.chainB md ops n && decide (n < ops.size) && decide (i < n) && headB md ops n listed && Region.free md ops listed i && (Region.ready md ops listed).contains i

/-- An operation that yields its value in every world that meets S is taken first. -/
theorem wpHd_take {i : Nat} {oi : Oper} {v : Value} {f : Nat} {listed : Array Bool} {a : Act} {w : World} (hi : ops[i]? = some oi) (hB : takeB md ops n listed i = true)
    (hQ : ∀ c a w, Q (.panic c) (a.put oi.dst v) w → Q (.panic c) a w) (hy : YieldsIf P ops S oi v a) (hS : S w)
    (h : wpHd P md ops Q S n L f (listed.setIfInBounds i true) (a.put oi.dst v) w) : wpHd P md ops Q S n L (f + 1) listed a w := by
  simp only [takeB, Bool.and_eq_true, decide_eq_true_eq] at hB
  obtain ⟨⟨⟨⟨⟨⟨⟨h1, h2⟩, h3⟩, h4⟩, h5⟩, h6⟩, h7⟩, h8⟩ := hB
  exact wpHd_first hi (Region.noSelect_spec h1) hQ h2 h3 h4 h5 f listed a w (headB_spec h6) (Region.free_spec hi h7) (by simpa using h8) hy hS h

/-- One operation alone may come up. -/
theorem wpHd_one {i : Nat} {o : Oper} {f : Nat} {listed : Array Bool} {a : Act} {w : World} (ho : ops[i]? = some o) (hB : (decide (Region.ready md ops listed = [i]) && decide (i < n)) = true)
    (h : ∀ K' : Act → World → Prop, Shut (∀ a w, S w → (S w → wpHd P md ops Q S n L f (listed.setIfInBounds i true) a w) → K' a w) → if Region.wanted o (yielded ops a.tmps) = true then Oper.wp P o a w K' Q else K' (a.put o.dst undef) w) :
    wpHd P md ops Q S n L (f + 1) listed a w := by
  simp only [Bool.and_eq_true, decide_eq_true_eq] at hB
  refine ⟨by rw [hB.1]; simp, fun j hj => ?_⟩
  rw [hB.1] at hj
  obtain rfl : j = i := by simpa using hj
  exact ⟨hB.2, wpOp_step ho (fun K' hK => h K' (fun a w hS hW => hK a w ⟨hS, hW hS⟩))⟩

/-- Two operations may come up. -/
theorem wpHd_two {i j : Nat} {o o' : Oper} {f : Nat} {listed : Array Bool} {a : Act} {w : World} (ho : ops[i]? = some o) (ho' : ops[j]? = some o') (hB : (decide (Region.ready md ops listed = [i, j]) && decide (i < n) && decide (j < n)) = true)
    (h : ∀ K' : Act → World → Prop, Shut (∀ a w, S w → (S w → wpHd P md ops Q S n L f (listed.setIfInBounds i true) a w) → K' a w) → if Region.wanted o (yielded ops a.tmps) = true then Oper.wp P o a w K' Q else K' (a.put o.dst undef) w)
    (h' : ∀ K' : Act → World → Prop, Shut (∀ a w, S w → (S w → wpHd P md ops Q S n L f (listed.setIfInBounds j true) a w) → K' a w) → if Region.wanted o' (yielded ops a.tmps) = true then Oper.wp P o' a w K' Q else K' (a.put o'.dst undef) w) :
    wpHd P md ops Q S n L (f + 1) listed a w := by
  simp only [Bool.and_eq_true, decide_eq_true_eq] at hB
  refine ⟨by rw [hB.1.1]; simp, fun x hx => ?_⟩
  rw [hB.1.1] at hx
  rcases List.mem_cons.1 hx with rfl | hx
  · exact ⟨hB.1.2, wpOp_step ho (fun K' hK => h K' (fun a w hS hW => hK a w ⟨hS, hW hS⟩))⟩
  · obtain rfl : x = j := by simpa using hx
    exact ⟨hB.2, wpOp_step ho' (fun K' hK => h' K' (fun a w hS hW => hK a w ⟨hS, hW hS⟩))⟩

/-- The region. -/
theorem wp_region_hd {id : Nat} {l : List Oper} {a : Act} {w : World} (n : Nat) (S : World → Prop) (hm : P.follows .mixedOrders = true) (hn : n < l.length) (hS : S w.drew)
    (h : S w.drew → wpHd P .any l.toArray Q S n (fun a' w' => wpList P l.toArray Q (l.drop n) a' w') n (Array.replicate l.toArray.size false) a w.drew) : (Code.region id l.toArray true).wp P Q a w := by
  have hdl : (l.drop n).length = l.toArray.size - n := by simp
  refine wp_region_any hm ?_
  have := wpAny_of_hd (P := P) (md := .any) (ops := l.toArray) (Q := Q) (S := S) (n := n) (fun listed a' w' hB hL => by
    have := wpAny_of_seq (md := .any) (Q' := Q) (l.drop n) n listed a' w' (fun j => by simp [List.getElem?_drop]) (by rw [hdl]; exact hB) hL
    rwa [hdl] at this) _ _ _ _ (h hS)
  rw [show n + (l.toArray.size - n) = l.toArray.size by simp; omega] at this
  exact this
end
end Go.Proofs.YtepffglljmekiaaGreat

set_option linter.unusedVariables false
set_option linter.unusedSimpArgs false
namespace Go.Proofs.YtepffglljmekiaaGreat
open Go.RowKit
set_option maxRecDepth 100000
def StR (w : World) (v : Value) (wr : World) : Prop := ∃ (k n : Nat) (L : List Rg) (M st : Nat → Int) (ba en : Int), k ≤ 30 ∧ v = .int .i64 k ∧ n ≤ 40000 * k ∧ MS (from_ w.heap.size) wr w.heap.size n L M st 50 ba en ∧ Bl w wr
def SnR (L : List Rg) (M st : Nat → Int) (base : Nat) (W1 : World) (v6 v7 v8 v9 : Value) (w2 : World) : Prop := ∃ j : Nat, j ≤ 18 ∧ v9 = .int .u64 j ∧ SnS st base j v6 w2 ∧ SnB M base j v7 w2 ∧ SnP L base j v8 w2 ∧ Bl W1 w2
theorem mul_cast (j : Nat) : ((j * 4096 : Nat) : Int) = (j : Int) * 4096 := by omega
theorem keep7 {b : Nat} {v0 v1 v2 v3 v4 v5 v6 : Value} {w1 w2 : World} (h : w1.cell? ⟨b, 0, none⟩ = some v0 ∧ w1.cell? ⟨b, 1, none⟩ = some v1 ∧ w1.cell? ⟨b, 2, none⟩ = some v2 ∧ w1.cell? ⟨b, 3, none⟩ = some v3 ∧ w1.cell? ⟨b, 4, none⟩ = some v4 ∧ w1.cell? ⟨b, 5, none⟩ = some v5 ∧ w1.cell? ⟨b, 6, none⟩ = some v6) (k : Bl w1 w2) :
    w2.cell? ⟨b, 0, none⟩ = some v0 ∧ w2.cell? ⟨b, 1, none⟩ = some v1 ∧ w2.cell? ⟨b, 2, none⟩ = some v2 ∧ w2.cell? ⟨b, 3, none⟩ = some v3 ∧ w2.cell? ⟨b, 4, none⟩ = some v4 ∧ w2.cell? ⟨b, 5, none⟩ = some v5 ∧ w2.cell? ⟨b, 6, none⟩ = some v6 :=
  ⟨k.cell' h.1, k.cell' h.2.1, k.cell' h.2.2.1, k.cell' h.2.2.2.1, k.cell' h.2.2.2.2.1, k.cell' h.2.2.2.2.2.1, k.cell' h.2.2.2.2.2.2⟩
theorem cells7 {b : Nat} {t : TypeId} {v0 v1 v2 v3 v4 v5 v6 : Value} {w1 : World} (h : w1.heap[b]? = some (.cells #[v0, v1, v2, v3, v4, v5, v6] t (0, 0))) : w1.cell? ⟨b, 0, none⟩ = some v0 ∧ w1.cell? ⟨b, 1, none⟩ = some v1 ∧ w1.cell? ⟨b, 2, none⟩ = some v2 ∧ w1.cell? ⟨b, 3, none⟩ = some v3 ∧ w1.cell? ⟨b, 4, none⟩ = some v4 ∧ w1.cell? ⟨b, 5, none⟩ = some v5 ∧ w1.cell? ⟨b, 6, none⟩ = some v6 := by
  refine ⟨?_, ?_, ?_, ?_, ?_, ?_, ?_⟩ <;> simp [World.cell?, h]
set_option maxHeartbeats 12000000 in
theorem stamps_walk (a0 : Option Addr) (len0 cap0 : Nat) (w : World) (w0 : ActsZ w a0 len0) (hlen : len0 ≤ 9223372036854775807) :
    Calls Tryz.prog 3 #[.slice a0 len0 cap0] w (BoolPost w true) := by
  have HA := Lib.hid w0; clear w0
  have hlI : (len0 : Int) ≤ 9223372036854775807 := by omega
  have hl0 : (0 : Int) ≤ (len0 : Int) := by omega
  have cn := mnew_any (from_ w.heap.size) 50 w (Nat.le_refl _) (by omega) (by omega)
  have CN := Lib.hid cn; clear cn
  unfold addr0 at *
  go_enter Tryz.func3, Tryz.ntmps3
  go_wp2_with fail
  refine CN.out.mono ?_
  rintro e w1 ⟨rfl, h1, k1, hs1⟩
  have H1 := Lib.hid h1; clear h1 hs1 CN
  have K1 := Lib.hid k1; clear k1
  go_wp2_with fail
  refine (manswers_any _).mono ?_
  rintro e w3 ⟨rfl, k3⟩
  have H3 := Lib.hid (H1.out.bl k3); clear H1
  have K3 := Lib.hid (K1.out.trans k3); clear k3 K1
  go_wp2_with fail
  go_loopw [4, 5, 6, 7, 8, 9, 10, 11, 12, 13] (fun v4 _ _ _ _ _ _ _ _ _ wr => StR w v4 wr) (fun v4 _ _ _ _ _ _ _ _ _ _ => 30 - (intOf v4).toNat)
  case atStart => exact ⟨0, 0, [], _, _, 0, 0, by omega, rfl, by omega, H3.out, K3.out⟩
  case round =>
    obtain ⟨k, n, L, M, st, ba, en, hk, rfl, hn, hms, hbl⟩ := hrel
    clear H3 K3
    obtain ⟨V, hV⟩ : ∃ V, V = wr := ⟨_, rfl⟩
    subst hV
    have HM := Lib.hid hms; clear hms
    have HB := Lib.hid hbl; clear hbl
    have HN := Lib.hid hn; clear hn
    have hkI : (k : Int) ≤ 30 := by omega
    by_cases hgo : k < len0 ∧ k < 30
    · obtain ⟨g1, g2⟩ := hgo
      obtain ⟨b, off, ha, hcs⟩ := HA.out (by omega)
      subst ha
      obtain ⟨d, m, p, ad, sz, fx, A, l, c, xs, c0, c1, c2, c3, c4, c5, c6, had, hsz, hby⟩ := hcs k g1
      replace c0 := HB.out.cell' c0
      replace c1 := HB.out.cell' c1
      replace c2 := HB.out.cell' c2
      replace c3 := HB.out.cell' c3
      replace c4 := HB.out.cell' c4
      replace c5 := HB.out.cell' c5
      replace c6 := HB.out.cell' c6
      have HBY := Lib.hid hby; clear hby hcs
      have HAD := Lib.hid had; clear had
      have HSZ := Lib.hid hsz; clear hsz
      have g1I : (k : Int) < (len0 : Int) := by omega
      have g2I : (k : Int) < 30 := by omega
      have hl2 : (l : Int) ≤ 9223372036854775807 := by have := HBY.out.le; omega
      by_cases hlong : 6000 < l
      · have hlongI : (6000 : Int) < (l : Int) := by omega
        clear hlong
        go_wp2_with fail
        exact ⟨⟨k + 1, n, L, M, st, ba, en, by omega, by go_num, by have := HN.out; omega, HM.out.bl (Bl.new _ _), HB.out.alloc _⟩, by simp only [intOf]; omega⟩
      · have hlongI : (l : Int) ≤ 6000 := by omega
        clear hlong
        go_wp2_with fail
        clear c0 c1 c2 c3 c4 c5 c6
        obtain ⟨W1, hW1⟩ : ∃ W1, W1 = V.alloc (.cells #[.int .i64 d, .int .i64 m, .int .i64 p, .int .u64 ad, .int .u64 sz, .bool fx, .slice A l c] 29) := ⟨_, rfl⟩
        rw [← hW1]
        have hbox : W1.heap[V.heap.size]? = some (.cells #[.int .i64 d, .int .i64 m, .int .i64 p, .int .u64 ad, .int .u64 sz, .bool fx, .slice A l c] 29 (0, 0)) := by rw [hW1]; exact heap_alloc_new V _
        have hVW : Bl V W1 := by rw [hW1]; exact Bl.new _ _
        have hsz1 : W1.heap.size = V.heap.size + 1 := by rw [hW1]; simp
        have HM1 := Lib.hid (HM.out.bl hVW)
        have HBOX := Lib.hid hbox; clear hbox
        have HVW := Lib.hid hVW; clear hVW
        have HSZ1 := Lib.hid hsz1; clear hsz1 hW1
        obtain ⟨bx, hbx⟩ : ∃ bx, bx = V.heap.size := ⟨_, rfl⟩
        rw [← hbx]
        have HBX := Lib.hid hbx; clear hbx
        go_loopw [6, 7, 8, 9] (fun v6 v7 v8 v9 w2 => SnR L M st W1.heap.size W1 v6 v7 v8 v9 w2) (fun _ _ _ v9 _ => 18 - (intOf v9).toNat)
        case atStart => exact ⟨0, by omega, rfl, SnS.nil, SnB.nil, SnP.nil, Bl.refl _⟩
        case round =>
          obtain ⟨j, hj, rfl, hs, hb, hp, kb⟩ := hrel
          by_cases hlt : j < 18
          · have hjI : (j : Int) < 18 := by omega
            have hms2 := HM1.out.bl kb
            have cs := mstamp_any hms2 j (by omega)
            unfold addr0 at cs
            have HMK := Lib.hid (fun W (k : Bl W1 W) => HM1.out.bl k)
            obtain ⟨v6', wa, hr6, hs6, hb6, hp6, ka⟩ := S_step hs hb hp kb hlt
            have HR6 := Lib.hid hr6; clear hr6 hs hb hp hms2 kb
            generalize st j = x at cs HR6
            go_wp2_with fail
            refine cs.mono ?_
            rintro e w' ⟨rfl, rfl⟩
            clear cs
            go_wp2_with (at_builtin; refine wpl_append_run rfl (.tmp 43) (.tmp 47) 30 rfl _ _ _ rfl rfl HR6.out ?_)
            have cp := mpeek_any (HMK.out wa ka) (j * 4096) 4096 (by omega) (by omega) (by omega)
            rw [mul_cast] at cp
            unfold addr0 at cp
            refine cp.mono ?_
            rintro e wb ⟨rfl, hbb, kpb⟩
            clear cp HR6
            obtain ⟨v7', wc, hr7, hs7, hb7, hp7, kc⟩ := B_step hs6 hb6 hp6 ka hlt kpb hbb
            have HR7 := Lib.hid hr7; clear hr7 hs6 hb6 hp6 ka kpb hbb
            go_wp2_with (at_builtin; refine wpl_append_run rfl (.tmp 49) (.tmp 54) 31 rfl _ _ _ rfl rfl HR7.out ?_)
            have cq := lprot_any (HMK.out wc kc) ((j : Int) * 4096)
            unfold addr0 at cq
            refine cq.mono ?_
            rintro e wd ⟨q, rfl, hq, kd⟩
            clear cq HR7
            obtain ⟨v8', we, hr8, hs8, hb8, hp8, ke⟩ := P_step hs7 hb7 hp7 kc hlt kd hq
            have HR8 := Lib.hid hr8; clear hr8 hs7 hb7 hp7 kc kd hq
            go_wp2_with (at_builtin; refine wpl_append_run rfl (.tmp 56) (.tmp 61) 32 rfl _ _ _ rfl rfl HR8.out ?_)
            exact ⟨⟨j + 1, by omega, by go_num, hs8, hb8, hp8, ke⟩, by simp only [intOf]; omega⟩
          · obtain rfl : j = 18 := by omega
            clear hlt hj
            obtain ⟨Wn, hWn⟩ : ∃ Wn, Wn = wr := ⟨_, rfl⟩
            subst hWn
            have hbx1 : W1.heap[bx]? = some (.cells #[.int .i64 d, .int .i64 m, .int .i64 p, .int .u64 ad, .int .u64 sz, .bool fx, .slice A l c] 29 (0, 0)) := by rw [HBX.out]; exact HBOX.out
            have hS := cells7 (kb.at_ hbx1)
            have HBX1 := Lib.hid hbx1; clear hbx1
            have HKB := Lib.hid kb; clear kb
            have HSS := Lib.hid hs; clear hs
            have HSB := Lib.hid hb; clear hb
            have HSP := Lib.hid hp; clear hp
            go_wp2_with fail
            go_region_held3 (fun w' => w'.cell? ⟨bx, 0, none⟩ = some (.int .i64 d) ∧ w'.cell? ⟨bx, 1, none⟩ = some (.int .i64 m) ∧ w'.cell? ⟨bx, 2, none⟩ = some (.int .i64 p) ∧ w'.cell? ⟨bx, 3, none⟩ = some (.int .u64 ad) ∧ w'.cell? ⟨bx, 4, none⟩ = some (.int .u64 sz) ∧ w'.cell? ⟨bx, 5, none⟩ = some (.bool fx) ∧ w'.cell? ⟨bx, 6, none⟩ = some (.slice A l c)) (first | assumption | exact keep7 hS ((Bl.refl Wn).drewN 1)) (first | (go_at_call 11; refine (rnew_any _).mono ?_; rintro e w5 ⟨rfl, hra, k5⟩; have hra2 : RA w5 Wn.heap.size 0 0 := (by simpa using hra); have k6 : Bl Wn w5 := Bl.trans (by first | exact Bl.refl _ | exact (Bl.refl Wn).drewN 1) k5; have hS5 := keep7 hS k6) | (go_at_call 10; refine (both_step HM.out (by have := HN.out; omega) HB.out (HVW.out.trans (HKB.out.trans k6)) hra2 (Nat.le_trans HVW.out.size HKB.out.size) d m p ad sz fx A l c xs HBY.out (by omega) HAD.out HSZ.out).mono ?_; rintro e w6 ⟨⟨s1, s2, rfl⟩, hleft, hfr⟩; have hbe := behind_of HB.out HVW.out HBX.out HKB.out k6 hra2 (Nat.le_refl _) HSS.out HSB.out HSP.out HBX1.out hleft hfr; have hS6 := cells7 hbe.box))
            all_goals (
              clear hleft hfr hS hS5 hS6 hra hra2 k6 k5 HSS HSB HSP
              have hc0 := (cells7 hbe.box).1
              have HBE := Lib.hid hbe; clear hbe
              go_upto_region 19 with (fail)
              go_cut [10] from 67 to 94 (fun v wx => ∃ qb : Bool, v = .bool qb ∧ (qb = true → Quiet d) ∧ w6 = wx)
              case first =>
                have hds : d = 5 ∨ d = 7 ∨ d = 8 ∨ d = 10 ∨ d = 13 ∨ d = 14 ∨ ¬ (d = 5 ∨ d = 7 ∨ d = 8 ∨ d = 10 ∨ d = 13 ∨ d = 14) := by omega
                rcases hds with rfl | rfl | rfl | rfl | rfl | rfl | hno
                · go_wp2_with fail
                  go_meet
                  case rel => exact ⟨true, rfl, fun _ => (by unfold Quiet; decide), rfl⟩
                · go_wp2_with fail
                  go_meet
                  case rel => exact ⟨true, rfl, fun _ => (by unfold Quiet; decide), rfl⟩
                · go_wp2_with fail
                  go_meet
                  case rel => exact ⟨true, rfl, fun _ => (by unfold Quiet; decide), rfl⟩
                · go_wp2_with fail
                  go_meet
                  case rel => exact ⟨true, rfl, fun _ => (by unfold Quiet; decide), rfl⟩
                · go_wp2_with fail
                  go_meet
                  case rel => exact ⟨true, rfl, fun _ => (by unfold Quiet; decide), rfl⟩
                · go_wp2_with fail
                  go_meet
                  case rel => exact ⟨true, rfl, fun _ => (by unfold Quiet; decide), rfl⟩
                · have e5 : (d == 5) = false := by simp; omega
                  have e7 : (d == 7) = false := by simp; omega
                  have e8 : (d == 8) = false := by simp; omega
                  have e10 : (d == 10) = false := by simp; omega
                  have e13 : (d == 13) = false := by simp; omega
                  have e14 : (d == 14) = false := by simp; omega
                  clear hno
                  go_wp2_with fail
                  go_meet
                  case rel => exact ⟨false, rfl, (fun h => by cases h), rfl⟩
              case rest =>
                obtain ⟨qb, rfl, hqb, rfl⟩ := hcut
                clear hc0
                obtain ⟨L', M', st', ba', en', e1, e2, e3⟩ := HBE.out.left
                obtain ⟨y6, cc6, hu6, l6, a6⟩ := HBE.out.ss.at_ (by omega)
                obtain ⟨y7, cc7, hu7, l7, a7⟩ := HBE.out.sb.at_ (by omega)
                obtain ⟨y8, cc8, hu8, l8, a8⟩ := HBE.out.sp.at_ (by omega)
                rw [hu6, hu7, hu8]
                clear hu6 hu7 hu8
                have A6 := Lib.hid a6; clear a6
                have A7 := Lib.hid a7; clear a7
                have A8 := Lib.hid a8; clear a8
                have HQ3 : Hid (qb = true → st' = st) := Lib.hid fun h => e3 (hqb h)
                clear e3 hqb
                have E1 := Lib.hid e1; clear e1
                have E2 := Lib.hid e2; clear e2
                go_wp2_with fail
                go_loopw [11, 12, 13] (fun v11 _ _ wx => ∃ j : Nat, j ≤ 18 ∧ v11 = .int .u64 j ∧ Bl w6 wx) (fun v11 _ _ _ => 18 - (intOf v11).toNat)
                case atStart => exact ⟨0, by omega, rfl, Bl.refl _⟩
                case round =>
                  obtain ⟨j, hj, rfl, kb⟩ := hrel
                  by_cases hlt : j < 18
                  · have hjI : (j : Int) < 18 := by omega
                    obtain ⟨X, hX⟩ : ∃ X, X = wr := ⟨_, rfl⟩
                    subst hX
                    have hms2 := E1.out.bl kb
                    obtain ⟨gb, b7, hb7⟩ := A7.out j hlt
                    obtain ⟨q, b8, hq⟩ := A8.out j hlt
                    have b6 := A6.out j hlt
                    replace b6 := kb.cell' b6
                    replace b7 := kb.cell' b7
                    replace b8 := kb.cell' b8
                    replace hb7 := kb.at_ hb7
                    obtain ⟨q', hq'⟩ := ProtIs.some_ L' ((j : Int) * 4096)
                    obtain ⟨hst1, hst2⟩ := E2.out j (by omega)
                    have cp := fun W (k : Bl X W) => mpeek_any (hms2.bl k) (j * 4096) 4096 (by omega) (by omega) (by omega)
                    rw [mul_cast] at cp
                    have cq := fun W (k : Bl X W) => lprot_at (hms2.bl k) ((j : Int) * 4096) q' hq'
                    have csx := fun W (k : Bl X W) => mstamp_any (hms2.bl k) j (by omega)
                    have hdq : q ≠ q' → st j < st' j := fun h => hst2 (.inr (ProtIs.same HM.out.rs hms2.rs hq hq' h))
                    have hdb : bytesAt M (j * 4096) 4096 ≠ bytesAt M' (j * 4096) 4096 → st j < st' j := fun h => hst2 (.inl (bytes_ne h))
                    unfold addr0 at cp cq csx
                    have CP := Lib.hid cp; clear cp
                    have CQ := Lib.hid cq; clear cq
                    have CS := Lib.hid csx; clear csx hms2 hst2
                    have HDQ := Lib.hid hdq; clear hdq
                    have HDB := Lib.hid hdb; clear hdb
                    have HST := Lib.hid hst1; clear hst1
                    have hw : IntKind.u64.wrap ((j : Int) * 4096) = (j : Int) * 4096 := IntWalk.u64_in _ (by omega)
                    have HW := Lib.hid hw; clear hw
                    go_upto_region 23 with (fail)
                    go_cut [12] from 99 to 118 (fun v wx => ∃ t : Bool, v = .bool t ∧ (t = false → st j < st' j) ∧ Bl X wx)
                    case first =>
                      by_cases hbe : bytesAt M (j * 4096) 4096 = bytesAt M' (j * 4096) 4096
                      · have HEQ := Lib.hid hbe; clear hbe
                        by_cases hqq : q = q'
                        · subst hqq
                          clear b6
                          have hw := HW.out
                          refine wp_region_hd 20 (fun w' => Bl X w' ∧ w'.cell? ⟨y7, j, none⟩ = some (.slice (some ⟨gb, 0, none⟩) 4096 4096) ∧ w'.cell? ⟨y8, j, none⟩ = some (.int .i64 q)) (by kernel_rfl) (by decide) (⟨(Bl.refl X).drew, b7, b8⟩) (fun hHeld => ?_)
                          clear b7 b8
                          refine wpHd_take (i := 0) (v := ?_) rfl (by kernel_rfl) (fun _ _ _ h => h) (Or.inl ⟨by rfl, ?hy⟩) hHeld ?_
                          case hy => (intro w hSw; (try dsimp only at hSw); go_split_ands; go_simp; try (with_reducible rfl))
                          (try simp only [Act.put, List.getElem_toArray, List.getElem_cons_zero, List.getElem_cons_succ, List.setIfInBounds_toArray, List.set_cons_zero, List.set_cons_succ])
                          refine wpHd_take (i := 1) (v := ?_) rfl (by kernel_rfl) (fun _ _ _ h => h) (Or.inl ⟨by rfl, ?hy⟩) hHeld ?_
                          case hy => (intro w hSw; (try dsimp only at hSw); go_split_ands; go_simp; try (with_reducible rfl))
                          (try simp only [Act.put, List.getElem_toArray, List.getElem_cons_zero, List.getElem_cons_succ, List.setIfInBounds_toArray, List.set_cons_zero, List.set_cons_succ])
                          refine wpHd_take (i := 2) (v := ?_) rfl (by kernel_rfl) (fun _ _ _ h => h) (Or.inl ⟨by rfl, ?hy⟩) hHeld ?_
                          case hy => (intro w hSw; (try dsimp only at hSw); go_split_ands; go_simp; try (with_reducible rfl))
                          (try simp only [Act.put, List.getElem_toArray, List.getElem_cons_zero, List.getElem_cons_succ, List.setIfInBounds_toArray, List.set_cons_zero, List.set_cons_succ])
                          refine wpHd_take (i := 3) (v := ?_) rfl (by kernel_rfl) (fun _ _ _ h => h) (Or.inl ⟨by rfl, ?hy⟩) hHeld ?_
                          case hy => (intro w hSw; (try dsimp only at hSw); go_split_ands; go_simp; try (with_reducible rfl))
                          (try simp only [Act.put, List.getElem_toArray, List.getElem_cons_zero, List.getElem_cons_succ, List.setIfInBounds_toArray, List.set_cons_zero, List.set_cons_succ])
                          refine wpHd_take (i := 4) (v := ?_) rfl (by kernel_rfl) (fun _ _ _ h => h) (Or.inl ⟨by rfl, ?hy⟩) hHeld ?_
                          case hy => (intro w hSw; (try dsimp only at hSw); go_split_ands; go_simp; try (with_reducible rfl))
                          (try simp only [Act.put, List.getElem_toArray, List.getElem_cons_zero, List.getElem_cons_succ, List.setIfInBounds_toArray, List.set_cons_zero, List.set_cons_succ])
                          refine wpHd_take (i := 5) (v := ?_) rfl (by kernel_rfl) (fun _ _ _ h => h) (Or.inl ⟨by rfl, ?hy⟩) hHeld ?_
                          case hy => (intro w hSw; (try dsimp only at hSw); go_split_ands; go_simp; try (with_reducible rfl))
                          (try simp only [Act.put, List.getElem_toArray, List.getElem_cons_zero, List.getElem_cons_succ, List.setIfInBounds_toArray, List.set_cons_zero, List.set_cons_succ])
                          refine wpHd_take (i := 6) (v := ?_) rfl (by kernel_rfl) (fun _ _ _ h => h) (Or.inl ⟨by rfl, ?hy⟩) hHeld ?_
                          case hy => (intro w hSw; (try dsimp only at hSw); go_split_ands; go_simp; try (with_reducible rfl))
                          (try simp only [Act.put, List.getElem_toArray, List.getElem_cons_zero, List.getElem_cons_succ, List.setIfInBounds_toArray, List.set_cons_zero, List.set_cons_succ])
                          refine wpHd_one (i := 7) rfl (by kernel_rfl) (fun K hK => ?_)
                          go_simp
                          refine (CP.out _ hHeld.1).mono ?_
                          rintro e w8 ⟨rfl, hbb, k8⟩
                          refine hK.out _ _ ?_ (fun hHeld => ?_)
                          · exact ⟨hHeld.1.trans k8, k8.cell' hHeld.2.1, k8.cell' hHeld.2.2⟩
                          clear hK K
                          (try simp only [Act.put, List.getElem_toArray, List.getElem_cons_zero, List.getElem_cons_succ, List.setIfInBounds_toArray, List.set_cons_zero, List.set_cons_succ])
                          refine wpHd_one (i := 8) rfl (by kernel_rfl) (fun K hK => ?_)
                          go_simp
                          refine (sameB_any _ _ 4096 _ _ (bytesAt M (j * 4096) 4096) _ (Rd.of_block (hHeld.1.at_ hb7)) (HEQ.out ▸ Rd.of_block hbb) (bytesAt_length _ _ _) (by omega)).mono ?_
                          rintro e w9 ⟨rfl, m9, rfl⟩
                          refine hK.out _ _ ?_ (fun hHeld => ?_)
                          · exact ⟨hHeld.1.drewN m9, hHeld.2.1, hHeld.2.2⟩
                          clear hK K
                          (try simp only [Act.put, List.getElem_toArray, List.getElem_cons_zero, List.getElem_cons_succ, List.setIfInBounds_toArray, List.set_cons_zero, List.set_cons_succ])
                          refine wpHd_take (i := 9) (v := ?_) rfl (by kernel_rfl) (fun _ _ _ h => h) (Or.inl ⟨by rfl, ?hy⟩) hHeld ?_
                          case hy => (intro w hSw; (try dsimp only at hSw); go_split_ands; go_simp; try (with_reducible rfl))
                          (try simp only [Act.put, List.getElem_toArray, List.getElem_cons_zero, List.getElem_cons_succ, List.setIfInBounds_toArray, List.set_cons_zero, List.set_cons_succ])
                          refine wpHd_take (i := 10) (v := ?_) rfl (by kernel_rfl) (fun _ _ _ h => h) (Or.inl ⟨by rfl, ?hy⟩) hHeld ?_
                          case hy => (intro w hSw; (try dsimp only at hSw); go_split_ands; go_simp; try (with_reducible rfl))
                          (try simp only [Act.put, List.getElem_toArray, List.getElem_cons_zero, List.getElem_cons_succ, List.setIfInBounds_toArray, List.set_cons_zero, List.set_cons_succ])
                          refine wpHd_take (i := 11) (v := ?_) rfl (by kernel_rfl) (fun _ _ _ h => h) (Or.inl ⟨by rfl, ?hy⟩) hHeld ?_
                          case hy => (intro w hSw; (try dsimp only at hSw); go_split_ands; go_simp; try (with_reducible rfl))
                          (try simp only [Act.put, List.getElem_toArray, List.getElem_cons_zero, List.getElem_cons_succ, List.setIfInBounds_toArray, List.set_cons_zero, List.set_cons_succ])
                          refine wpHd_take (i := 12) (v := ?_) rfl (by kernel_rfl) (fun _ _ _ h => h) (Or.inl ⟨by rfl, ?hy⟩) hHeld ?_
                          case hy => (intro w hSw; (try dsimp only at hSw); go_split_ands; go_simp; try (with_reducible rfl))
                          (try simp only [Act.put, List.getElem_toArray, List.getElem_cons_zero, List.getElem_cons_succ, List.setIfInBounds_toArray, List.set_cons_zero, List.set_cons_succ])
                          refine wpHd_take (i := 13) (v := ?_) rfl (by kernel_rfl) (fun _ _ _ h => h) (Or.inl ⟨by rfl, ?hy⟩) hHeld ?_
                          case hy => (intro w hSw; (try dsimp only at hSw); go_split_ands; go_simp; try (with_reducible rfl))
                          (try simp only [Act.put, List.getElem_toArray, List.getElem_cons_zero, List.getElem_cons_succ, List.setIfInBounds_toArray, List.set_cons_zero, List.set_cons_succ])
                          refine wpHd_take (i := 14) (v := ?_) rfl (by kernel_rfl) (fun _ _ _ h => h) (Or.inl ⟨by rfl, ?hy⟩) hHeld ?_
                          case hy => (intro w hSw; (try dsimp only at hSw); go_split_ands; go_simp; try (with_reducible rfl))
                          (try simp only [Act.put, List.getElem_toArray, List.getElem_cons_zero, List.getElem_cons_succ, List.setIfInBounds_toArray, List.set_cons_zero, List.set_cons_succ])
                          refine wpHd_take (i := 15) (v := ?_) rfl (by kernel_rfl) (fun _ _ _ h => h) (Or.inl ⟨by rfl, ?hy⟩) hHeld ?_
                          case hy => (intro w hSw; (try dsimp only at hSw); go_split_ands; go_simp; try (with_reducible rfl))
                          (try simp only [Act.put, List.getElem_toArray, List.getElem_cons_zero, List.getElem_cons_succ, List.setIfInBounds_toArray, List.set_cons_zero, List.set_cons_succ])
                          refine wpHd_take (i := 16) (v := ?_) rfl (by kernel_rfl) (fun _ _ _ h => h) (Or.inl ⟨by rfl, ?hy⟩) hHeld ?_
                          case hy => (intro w hSw; (try dsimp only at hSw); go_split_ands; go_simp; try (with_reducible rfl))
                          (try simp only [Act.put, List.getElem_toArray, List.getElem_cons_zero, List.getElem_cons_succ, List.setIfInBounds_toArray, List.set_cons_zero, List.set_cons_succ])
                          refine wpHd_one (i := 17) rfl (by kernel_rfl) (fun K hK => ?_)
                          go_simp
                          refine (CQ.out _ hHeld.1).mono ?_
                          rintro e w10 ⟨rfl, k10⟩
                          refine hK.out _ _ ?_ (fun hHeld => ?_)
                          · exact ⟨hHeld.1.trans k10, k10.cell' hHeld.2.1, k10.cell' hHeld.2.2⟩
                          clear hK K
                          (try simp only [Act.put, List.getElem_toArray, List.getElem_cons_zero, List.getElem_cons_succ, List.setIfInBounds_toArray, List.set_cons_zero, List.set_cons_succ])
                          refine wpHd_take (i := 18) (v := ?_) rfl (by kernel_rfl) (fun _ _ _ h => h) (Or.inl ⟨by rfl, ?hy⟩) hHeld ?_
                          case hy => (intro w hSw; (try dsimp only at hSw); go_split_ands; go_simp; try (with_reducible rfl))
                          (try simp only [Act.put, List.getElem_toArray, List.getElem_cons_zero, List.getElem_cons_succ, List.setIfInBounds_toArray, List.set_cons_zero, List.set_cons_succ])
                          refine wpHd_take (i := 19) (v := ?_) rfl (by kernel_rfl) (fun _ _ _ h => h) (Or.inl ⟨by rfl, ?hy⟩) hHeld ?_
                          case hy => (intro w hSw; (try dsimp only at hSw); go_split_ands; go_simp; try (with_reducible rfl))
                          (try simp only [Act.put, List.getElem_toArray, List.getElem_cons_zero, List.getElem_cons_succ, List.setIfInBounds_toArray, List.set_cons_zero, List.set_cons_succ])
                          refine ⟨by kernel_rfl, ?_⟩
                          simp only [List.drop_succ_cons, List.drop_zero]
                          have HBX2 := Lib.hid hHeld.1
                          clear hHeld
                          go_wp2_with fail
                          go_meet
                          case rel => exact ⟨_, rfl, (fun h => by cases h), HBX2.out⟩
                        · have tq : (q == q') = false := by simp [hqq]
                          have HLT := Lib.hid (HDQ.out hqq)
                          clear hqq b6
                          have hw := HW.out
                          refine wp_region_hd 20 (fun w' => Bl X w' ∧ w'.cell? ⟨y7, j, none⟩ = some (.slice (some ⟨gb, 0, none⟩) 4096 4096) ∧ w'.cell? ⟨y8, j, none⟩ = some (.int .i64 q)) (by kernel_rfl) (by decide) (⟨(Bl.refl X).drew, b7, b8⟩) (fun hHeld => ?_)
                          clear b7 b8
                          refine wpHd_take (i := 0) (v := ?_) rfl (by kernel_rfl) (fun _ _ _ h => h) (Or.inl ⟨by rfl, ?hy⟩) hHeld ?_
                          case hy => (intro w hSw; (try dsimp only at hSw); go_split_ands; go_simp; try (with_reducible rfl))
                          (try simp only [Act.put, List.getElem_toArray, List.getElem_cons_zero, List.getElem_cons_succ, List.setIfInBounds_toArray, List.set_cons_zero, List.set_cons_succ])
                          refine wpHd_take (i := 1) (v := ?_) rfl (by kernel_rfl) (fun _ _ _ h => h) (Or.inl ⟨by rfl, ?hy⟩) hHeld ?_
                          case hy => (intro w hSw; (try dsimp only at hSw); go_split_ands; go_simp; try (with_reducible rfl))
                          (try simp only [Act.put, List.getElem_toArray, List.getElem_cons_zero, List.getElem_cons_succ, List.setIfInBounds_toArray, List.set_cons_zero, List.set_cons_succ])
                          refine wpHd_take (i := 2) (v := ?_) rfl (by kernel_rfl) (fun _ _ _ h => h) (Or.inl ⟨by rfl, ?hy⟩) hHeld ?_
                          case hy => (intro w hSw; (try dsimp only at hSw); go_split_ands; go_simp; try (with_reducible rfl))
                          (try simp only [Act.put, List.getElem_toArray, List.getElem_cons_zero, List.getElem_cons_succ, List.setIfInBounds_toArray, List.set_cons_zero, List.set_cons_succ])
                          refine wpHd_take (i := 3) (v := ?_) rfl (by kernel_rfl) (fun _ _ _ h => h) (Or.inl ⟨by rfl, ?hy⟩) hHeld ?_
                          case hy => (intro w hSw; (try dsimp only at hSw); go_split_ands; go_simp; try (with_reducible rfl))
                          (try simp only [Act.put, List.getElem_toArray, List.getElem_cons_zero, List.getElem_cons_succ, List.setIfInBounds_toArray, List.set_cons_zero, List.set_cons_succ])
                          refine wpHd_take (i := 4) (v := ?_) rfl (by kernel_rfl) (fun _ _ _ h => h) (Or.inl ⟨by rfl, ?hy⟩) hHeld ?_
                          case hy => (intro w hSw; (try dsimp only at hSw); go_split_ands; go_simp; try (with_reducible rfl))
                          (try simp only [Act.put, List.getElem_toArray, List.getElem_cons_zero, List.getElem_cons_succ, List.setIfInBounds_toArray, List.set_cons_zero, List.set_cons_succ])
                          refine wpHd_take (i := 5) (v := ?_) rfl (by kernel_rfl) (fun _ _ _ h => h) (Or.inl ⟨by rfl, ?hy⟩) hHeld ?_
                          case hy => (intro w hSw; (try dsimp only at hSw); go_split_ands; go_simp; try (with_reducible rfl))
                          (try simp only [Act.put, List.getElem_toArray, List.getElem_cons_zero, List.getElem_cons_succ, List.setIfInBounds_toArray, List.set_cons_zero, List.set_cons_succ])
                          refine wpHd_take (i := 6) (v := ?_) rfl (by kernel_rfl) (fun _ _ _ h => h) (Or.inl ⟨by rfl, ?hy⟩) hHeld ?_
                          case hy => (intro w hSw; (try dsimp only at hSw); go_split_ands; go_simp; try (with_reducible rfl))
                          (try simp only [Act.put, List.getElem_toArray, List.getElem_cons_zero, List.getElem_cons_succ, List.setIfInBounds_toArray, List.set_cons_zero, List.set_cons_succ])
                          refine wpHd_one (i := 7) rfl (by kernel_rfl) (fun K hK => ?_)
                          go_simp
                          refine (CP.out _ hHeld.1).mono ?_
                          rintro e w8 ⟨rfl, hbb, k8⟩
                          refine hK.out _ _ ?_ (fun hHeld => ?_)
                          · exact ⟨hHeld.1.trans k8, k8.cell' hHeld.2.1, k8.cell' hHeld.2.2⟩
                          clear hK K
                          (try simp only [Act.put, List.getElem_toArray, List.getElem_cons_zero, List.getElem_cons_succ, List.setIfInBounds_toArray, List.set_cons_zero, List.set_cons_succ])
                          refine wpHd_one (i := 8) rfl (by kernel_rfl) (fun K hK => ?_)
                          go_simp
                          refine (sameB_any _ _ 4096 _ _ (bytesAt M (j * 4096) 4096) _ (Rd.of_block (hHeld.1.at_ hb7)) (HEQ.out ▸ Rd.of_block hbb) (bytesAt_length _ _ _) (by omega)).mono ?_
                          rintro e w9 ⟨rfl, m9, rfl⟩
                          refine hK.out _ _ ?_ (fun hHeld => ?_)
                          · exact ⟨hHeld.1.drewN m9, hHeld.2.1, hHeld.2.2⟩
                          clear hK K
                          (try simp only [Act.put, List.getElem_toArray, List.getElem_cons_zero, List.getElem_cons_succ, List.setIfInBounds_toArray, List.set_cons_zero, List.set_cons_succ])
                          refine wpHd_take (i := 9) (v := ?_) rfl (by kernel_rfl) (fun _ _ _ h => h) (Or.inl ⟨by rfl, ?hy⟩) hHeld ?_
                          case hy => (intro w hSw; (try dsimp only at hSw); go_split_ands; go_simp; try (with_reducible rfl))
                          (try simp only [Act.put, List.getElem_toArray, List.getElem_cons_zero, List.getElem_cons_succ, List.setIfInBounds_toArray, List.set_cons_zero, List.set_cons_succ])
                          refine wpHd_take (i := 10) (v := ?_) rfl (by kernel_rfl) (fun _ _ _ h => h) (Or.inl ⟨by rfl, ?hy⟩) hHeld ?_
                          case hy => (intro w hSw; (try dsimp only at hSw); go_split_ands; go_simp; try (with_reducible rfl))
                          (try simp only [Act.put, List.getElem_toArray, List.getElem_cons_zero, List.getElem_cons_succ, List.setIfInBounds_toArray, List.set_cons_zero, List.set_cons_succ])
                          refine wpHd_take (i := 11) (v := ?_) rfl (by kernel_rfl) (fun _ _ _ h => h) (Or.inl ⟨by rfl, ?hy⟩) hHeld ?_
                          case hy => (intro w hSw; (try dsimp only at hSw); go_split_ands; go_simp; try (with_reducible rfl))
                          (try simp only [Act.put, List.getElem_toArray, List.getElem_cons_zero, List.getElem_cons_succ, List.setIfInBounds_toArray, List.set_cons_zero, List.set_cons_succ])
                          refine wpHd_take (i := 12) (v := ?_) rfl (by kernel_rfl) (fun _ _ _ h => h) (Or.inl ⟨by rfl, ?hy⟩) hHeld ?_
                          case hy => (intro w hSw; (try dsimp only at hSw); go_split_ands; go_simp; try (with_reducible rfl))
                          (try simp only [Act.put, List.getElem_toArray, List.getElem_cons_zero, List.getElem_cons_succ, List.setIfInBounds_toArray, List.set_cons_zero, List.set_cons_succ])
                          refine wpHd_take (i := 13) (v := ?_) rfl (by kernel_rfl) (fun _ _ _ h => h) (Or.inl ⟨by rfl, ?hy⟩) hHeld ?_
                          case hy => (intro w hSw; (try dsimp only at hSw); go_split_ands; go_simp; try (with_reducible rfl))
                          (try simp only [Act.put, List.getElem_toArray, List.getElem_cons_zero, List.getElem_cons_succ, List.setIfInBounds_toArray, List.set_cons_zero, List.set_cons_succ])
                          refine wpHd_take (i := 14) (v := ?_) rfl (by kernel_rfl) (fun _ _ _ h => h) (Or.inl ⟨by rfl, ?hy⟩) hHeld ?_
                          case hy => (intro w hSw; (try dsimp only at hSw); go_split_ands; go_simp; try (with_reducible rfl))
                          (try simp only [Act.put, List.getElem_toArray, List.getElem_cons_zero, List.getElem_cons_succ, List.setIfInBounds_toArray, List.set_cons_zero, List.set_cons_succ])
                          refine wpHd_take (i := 15) (v := ?_) rfl (by kernel_rfl) (fun _ _ _ h => h) (Or.inl ⟨by rfl, ?hy⟩) hHeld ?_
                          case hy => (intro w hSw; (try dsimp only at hSw); go_split_ands; go_simp; try (with_reducible rfl))
                          (try simp only [Act.put, List.getElem_toArray, List.getElem_cons_zero, List.getElem_cons_succ, List.setIfInBounds_toArray, List.set_cons_zero, List.set_cons_succ])
                          refine wpHd_take (i := 16) (v := ?_) rfl (by kernel_rfl) (fun _ _ _ h => h) (Or.inl ⟨by rfl, ?hy⟩) hHeld ?_
                          case hy => (intro w hSw; (try dsimp only at hSw); go_split_ands; go_simp; try (with_reducible rfl))
                          (try simp only [Act.put, List.getElem_toArray, List.getElem_cons_zero, List.getElem_cons_succ, List.setIfInBounds_toArray, List.set_cons_zero, List.set_cons_succ])
                          refine wpHd_one (i := 17) rfl (by kernel_rfl) (fun K hK => ?_)
                          go_simp
                          refine (CQ.out _ hHeld.1).mono ?_
                          rintro e w10 ⟨rfl, k10⟩
                          refine hK.out _ _ ?_ (fun hHeld => ?_)
                          · exact ⟨hHeld.1.trans k10, k10.cell' hHeld.2.1, k10.cell' hHeld.2.2⟩
                          clear hK K
                          (try simp only [Act.put, List.getElem_toArray, List.getElem_cons_zero, List.getElem_cons_succ, List.setIfInBounds_toArray, List.set_cons_zero, List.set_cons_succ])
                          refine wpHd_take (i := 18) (v := ?_) rfl (by kernel_rfl) (fun _ _ _ h => h) (Or.inl ⟨by rfl, ?hy⟩) hHeld ?_
                          case hy => (intro w hSw; (try dsimp only at hSw); go_split_ands; go_simp; try (with_reducible rfl))
                          (try simp only [Act.put, List.getElem_toArray, List.getElem_cons_zero, List.getElem_cons_succ, List.setIfInBounds_toArray, List.set_cons_zero, List.set_cons_succ])
                          refine wpHd_take (i := 19) (v := ?_) rfl (by kernel_rfl) (fun _ _ _ h => h) (Or.inl ⟨by rfl, ?hy⟩) hHeld ?_
                          case hy => (intro w hSw; (try dsimp only at hSw); go_split_ands; go_simp; try (with_reducible rfl))
                          (try simp only [Act.put, List.getElem_toArray, List.getElem_cons_zero, List.getElem_cons_succ, List.setIfInBounds_toArray, List.set_cons_zero, List.set_cons_succ])
                          refine ⟨by kernel_rfl, ?_⟩
                          simp only [List.drop_succ_cons, List.drop_zero]
                          have HBX2 := Lib.hid hHeld.1
                          clear hHeld
                          go_wp2_with fail
                          go_meet
                          case rel => exact ⟨_, rfl, (fun _ => HLT.out), HBX2.out⟩
                      · have HLT := Lib.hid (HDB.out hbe)
                        have HEQ := Lib.hid hbe; clear hbe b6
                        have hw := HW.out
                        refine wp_region_hd 20 (fun w' => Bl X w' ∧ w'.cell? ⟨y7, j, none⟩ = some (.slice (some ⟨gb, 0, none⟩) 4096 4096) ∧ w'.cell? ⟨y8, j, none⟩ = some (.int .i64 q)) (by kernel_rfl) (by decide) (⟨(Bl.refl X).drew, b7, b8⟩) (fun hHeld => ?_)
                        clear b7 b8
                        refine wpHd_take (i := 0) (v := ?_) rfl (by kernel_rfl) (fun _ _ _ h => h) (Or.inl ⟨by rfl, ?hy⟩) hHeld ?_
                        case hy => (intro w hSw; (try dsimp only at hSw); go_split_ands; go_simp; try (with_reducible rfl))
                        (try simp only [Act.put, List.getElem_toArray, List.getElem_cons_zero, List.getElem_cons_succ, List.setIfInBounds_toArray, List.set_cons_zero, List.set_cons_succ])
                        refine wpHd_take (i := 1) (v := ?_) rfl (by kernel_rfl) (fun _ _ _ h => h) (Or.inl ⟨by rfl, ?hy⟩) hHeld ?_
                        case hy => (intro w hSw; (try dsimp only at hSw); go_split_ands; go_simp; try (with_reducible rfl))
                        (try simp only [Act.put, List.getElem_toArray, List.getElem_cons_zero, List.getElem_cons_succ, List.setIfInBounds_toArray, List.set_cons_zero, List.set_cons_succ])
                        refine wpHd_take (i := 2) (v := ?_) rfl (by kernel_rfl) (fun _ _ _ h => h) (Or.inl ⟨by rfl, ?hy⟩) hHeld ?_
                        case hy => (intro w hSw; (try dsimp only at hSw); go_split_ands; go_simp; try (with_reducible rfl))
                        (try simp only [Act.put, List.getElem_toArray, List.getElem_cons_zero, List.getElem_cons_succ, List.setIfInBounds_toArray, List.set_cons_zero, List.set_cons_succ])
                        refine wpHd_take (i := 3) (v := ?_) rfl (by kernel_rfl) (fun _ _ _ h => h) (Or.inl ⟨by rfl, ?hy⟩) hHeld ?_
                        case hy => (intro w hSw; (try dsimp only at hSw); go_split_ands; go_simp; try (with_reducible rfl))
                        (try simp only [Act.put, List.getElem_toArray, List.getElem_cons_zero, List.getElem_cons_succ, List.setIfInBounds_toArray, List.set_cons_zero, List.set_cons_succ])
                        refine wpHd_take (i := 4) (v := ?_) rfl (by kernel_rfl) (fun _ _ _ h => h) (Or.inl ⟨by rfl, ?hy⟩) hHeld ?_
                        case hy => (intro w hSw; (try dsimp only at hSw); go_split_ands; go_simp; try (with_reducible rfl))
                        (try simp only [Act.put, List.getElem_toArray, List.getElem_cons_zero, List.getElem_cons_succ, List.setIfInBounds_toArray, List.set_cons_zero, List.set_cons_succ])
                        refine wpHd_take (i := 5) (v := ?_) rfl (by kernel_rfl) (fun _ _ _ h => h) (Or.inl ⟨by rfl, ?hy⟩) hHeld ?_
                        case hy => (intro w hSw; (try dsimp only at hSw); go_split_ands; go_simp; try (with_reducible rfl))
                        (try simp only [Act.put, List.getElem_toArray, List.getElem_cons_zero, List.getElem_cons_succ, List.setIfInBounds_toArray, List.set_cons_zero, List.set_cons_succ])
                        refine wpHd_take (i := 6) (v := ?_) rfl (by kernel_rfl) (fun _ _ _ h => h) (Or.inl ⟨by rfl, ?hy⟩) hHeld ?_
                        case hy => (intro w hSw; (try dsimp only at hSw); go_split_ands; go_simp; try (with_reducible rfl))
                        (try simp only [Act.put, List.getElem_toArray, List.getElem_cons_zero, List.getElem_cons_succ, List.setIfInBounds_toArray, List.set_cons_zero, List.set_cons_succ])
                        refine wpHd_one (i := 7) rfl (by kernel_rfl) (fun K hK => ?_)
                        go_simp
                        refine (CP.out _ hHeld.1).mono ?_
                        rintro e w8 ⟨rfl, hbb, k8⟩
                        refine hK.out _ _ ?_ (fun hHeld => ?_)
                        · exact ⟨hHeld.1.trans k8, k8.cell' hHeld.2.1, k8.cell' hHeld.2.2⟩
                        clear hK K
                        (try simp only [Act.put, List.getElem_toArray, List.getElem_cons_zero, List.getElem_cons_succ, List.setIfInBounds_toArray, List.set_cons_zero, List.set_cons_succ])
                        refine wpHd_one (i := 8) rfl (by kernel_rfl) (fun K hK => ?_)
                        go_simp
                        refine (sameB_no _ _ 4096 _ _ _ _ _ (Rd.of_block (hHeld.1.at_ hb7)) (Rd.of_block hbb) (bytesAt_length _ _ _) (bytesAt_length _ _ _) (by omega) HEQ.out).mono ?_
                        rintro e w9 ⟨rfl, m9, rfl⟩
                        refine hK.out _ _ ?_ (fun hHeld => ?_)
                        · exact ⟨hHeld.1.drewN m9, hHeld.2.1, hHeld.2.2⟩
                        clear hK K
                        (try simp only [Act.put, List.getElem_toArray, List.getElem_cons_zero, List.getElem_cons_succ, List.setIfInBounds_toArray, List.set_cons_zero, List.set_cons_succ])
                        refine wpHd_take (i := 9) (v := ?_) rfl (by kernel_rfl) (fun _ _ _ h => h) (Or.inl ⟨by rfl, ?hy⟩) hHeld ?_
                        case hy => (intro w hSw; (try dsimp only at hSw); go_split_ands; go_simp; try (with_reducible rfl))
                        (try simp only [Act.put, List.getElem_toArray, List.getElem_cons_zero, List.getElem_cons_succ, List.setIfInBounds_toArray, List.set_cons_zero, List.set_cons_succ])
                        refine wpHd_take (i := 10) (v := undef) rfl (by kernel_rfl) (fun _ _ _ h => h) (Or.inr ⟨by rfl, rfl⟩) hHeld ?_
                        (try simp only [Act.put, List.getElem_toArray, List.getElem_cons_zero, List.getElem_cons_succ, List.setIfInBounds_toArray, List.set_cons_zero, List.set_cons_succ])
                        refine wpHd_take (i := 11) (v := undef) rfl (by kernel_rfl) (fun _ _ _ h => h) (Or.inr ⟨by rfl, rfl⟩) hHeld ?_
                        (try simp only [Act.put, List.getElem_toArray, List.getElem_cons_zero, List.getElem_cons_succ, List.setIfInBounds_toArray, List.set_cons_zero, List.set_cons_succ])
                        refine wpHd_take (i := 12) (v := undef) rfl (by kernel_rfl) (fun _ _ _ h => h) (Or.inr ⟨by rfl, rfl⟩) hHeld ?_
                        (try simp only [Act.put, List.getElem_toArray, List.getElem_cons_zero, List.getElem_cons_succ, List.setIfInBounds_toArray, List.set_cons_zero, List.set_cons_succ])
                        refine wpHd_take (i := 13) (v := undef) rfl (by kernel_rfl) (fun _ _ _ h => h) (Or.inr ⟨by rfl, rfl⟩) hHeld ?_
                        (try simp only [Act.put, List.getElem_toArray, List.getElem_cons_zero, List.getElem_cons_succ, List.setIfInBounds_toArray, List.set_cons_zero, List.set_cons_succ])
                        refine wpHd_take (i := 14) (v := undef) rfl (by kernel_rfl) (fun _ _ _ h => h) (Or.inr ⟨by rfl, rfl⟩) hHeld ?_
                        (try simp only [Act.put, List.getElem_toArray, List.getElem_cons_zero, List.getElem_cons_succ, List.setIfInBounds_toArray, List.set_cons_zero, List.set_cons_succ])
                        refine wpHd_take (i := 15) (v := undef) rfl (by kernel_rfl) (fun _ _ _ h => h) (Or.inr ⟨by rfl, rfl⟩) hHeld ?_
                        (try simp only [Act.put, List.getElem_toArray, List.getElem_cons_zero, List.getElem_cons_succ, List.setIfInBounds_toArray, List.set_cons_zero, List.set_cons_succ])
                        refine wpHd_take (i := 16) (v := undef) rfl (by kernel_rfl) (fun _ _ _ h => h) (Or.inr ⟨by rfl, rfl⟩) hHeld ?_
                        (try simp only [Act.put, List.getElem_toArray, List.getElem_cons_zero, List.getElem_cons_succ, List.setIfInBounds_toArray, List.set_cons_zero, List.set_cons_succ])
                        refine wpHd_take (i := 17) (v := undef) rfl (by kernel_rfl) (fun _ _ _ h => h) (Or.inr ⟨by rfl, rfl⟩) hHeld ?_
                        (try simp only [Act.put, List.getElem_toArray, List.getElem_cons_zero, List.getElem_cons_succ, List.setIfInBounds_toArray, List.set_cons_zero, List.set_cons_succ])
                        refine wpHd_take (i := 18) (v := undef) rfl (by kernel_rfl) (fun _ _ _ h => h) (Or.inr ⟨by rfl, rfl⟩) hHeld ?_
                        (try simp only [Act.put, List.getElem_toArray, List.getElem_cons_zero, List.getElem_cons_succ, List.setIfInBounds_toArray, List.set_cons_zero, List.set_cons_succ])
                        refine wpHd_take (i := 19) (v := ?_) rfl (by kernel_rfl) (fun _ _ _ h => h) (Or.inl ⟨by rfl, ?hy⟩) hHeld ?_
                        case hy => (intro w hSw; (try dsimp only at hSw); go_split_ands; go_simp; try (with_reducible rfl))
                        (try simp only [Act.put, List.getElem_toArray, List.getElem_cons_zero, List.getElem_cons_succ, List.setIfInBounds_toArray, List.set_cons_zero, List.set_cons_succ])
                        refine ⟨by kernel_rfl, ?_⟩
                        simp only [List.drop_succ_cons, List.drop_zero]
                        have HBX2 := Lib.hid hHeld.1
                        clear hHeld
                        go_wp2_with fail
                        go_meet
                        case rel => exact ⟨_, rfl, (fun _ => HLT.out), HBX2.out⟩
                    case rest =>
                      obtain ⟨t, rfl, ht, kc⟩ := hcut
                      replace b6 := kc.cell' b6
                      clear b7 b8 hb7
                      have hq3 := HQ3.out
                      have cs := CS.out wc kc
                      have hq4 : qb = true → st' j = st j := fun h => by rw [hq3 h]
                      have hst := HST.out
                      clear hq3
                      have KC := Lib.hid kc; clear kc
                      have KB := Lib.hid kb; clear kb
                      have HDQ' := HDQ.out; clear HDQ' HDQ HDB CP CQ CS HST
                      generalize st j = x at hst ht hq4 b6
                      generalize st' j = x' at hst ht hq4 cs
                      have t1 : decide (x' < x) = false := by simp; omega
                      rcases t with _ | _
                      · rcases qb with _ | _
                        · have hlt2 := ht rfl
                          have t2 : (x' == x) = false := by simp; omega
                          clear ht hq4 hlt2 hst
                          go_wp2_with fail
                          refine cs.mono ?_
                          rintro e w' ⟨rfl, rfl⟩
                          clear cs
                          go_wp2_with fail
                          exact ⟨⟨j + 1, by omega, by go_num, KB.out.trans KC.out⟩, by simp only [intOf]; omega⟩
                        · have := ht rfl
                          have := hq4 rfl
                          omega
                      · rcases qb with _ | _
                        · clear ht hq4 hst
                          go_wp2_with fail
                          refine cs.mono ?_
                          rintro e w' ⟨rfl, rfl⟩
                          clear cs
                          go_wp2_with fail
                          exact ⟨⟨j + 1, by omega, by go_num, KB.out.trans KC.out⟩, by simp only [intOf]; omega⟩
                        · obtain rfl := hq4 rfl
                          have t3 : (x' != x') = false := by simp
                          clear ht hq4 hst
                          go_wp2_with fail
                          refine cs.mono ?_
                          rintro e w' ⟨rfl, rfl⟩
                          clear cs
                          go_wp2_with fail
                          exact ⟨⟨j + 1, by omega, by go_num, KB.out.trans KC.out⟩, by simp only [intOf]; omega⟩
                  · obtain rfl : j = 18 := by omega
                    clear hlt hj
                    go_wp2_with fail
                    exact ⟨⟨k + 1, n + 40000, L', M', st', ba', en', by omega, by go_num, by have := HN.out; omega, E1.out.bl kb, HBE.out.bl.trans kb⟩, by simp only [intOf]; omega⟩)
    · have hgo2 : len0 ≤ k ∨ 30 ≤ k := by omega
      clear hgo
      by_cases hl : k < len0
      · obtain rfl : k = 30 := by omega
        have hlI2 : (30 : Int) < (len0 : Int) := by omega
        clear hl hgo2
        go_wp2_with fail
        go_ret
        exact ⟨rfl, HB.out⟩
      · have hlI2 : (len0 : Int) ≤ (k : Int) := by omega
        clear hl hgo2
        go_wp2_with fail
        go_ret
        exact ⟨rfl, HB.out⟩
end Go.Proofs.YtepffglljmekiaaGreat
