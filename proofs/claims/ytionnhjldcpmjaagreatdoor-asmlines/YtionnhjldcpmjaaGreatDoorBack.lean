/-
  What is told is read as it was.
-/
import Derived.Test.YtionnhjldcpmjaaGreatDoorShape
import Derived.Test.YtionnhjldcpmjaaGreatDoorAsmJ
set_option linter.unusedVariables false
set_option linter.unusedSimpArgs false
namespace Go.Proofs.YtionnhjldcpmjaaGreatDoor
open Go.RowKit

theorem index_skip (c : UInt8) (t : List UInt8) : ∀ (x y : List UInt8), c ∉ x → Lib.index (x ++ y) (c :: t) = if Lib.index y (c :: t) = -1 then -1 else Lib.index y (c :: t) + x.length
  | [], y, _ => by simp only [List.nil_append, List.length_nil]; split <;> simp_all
  | b :: l, y, h => by
    have hb : c ≠ b := fun e => h (by simp [e])
    have ih := index_skip c t l y (fun e => h (by simp [e]))
    have hg := Lib.index_ge y (c :: t)
    have hp : (c :: t).isPrefixOf (b :: (l ++ y)) = false := by simp [List.isPrefixOf, hb]
    rw [List.cons_append, Lib.index, hp, ih]
    by_cases h1 : Lib.index y (c :: t) = -1
    · simp [h1]
    · have h2 : Lib.index y (c :: t) + (l.length : Int) ≠ -1 := by omega
      simp only [if_neg h1, List.length_cons]
      simp [h2]
      omega
theorem index_here (c : UInt8) (t y : List UInt8) : Lib.index (c :: t ++ y) (c :: t) = 0 := by
  have hp : (c :: t).isPrefixOf (c :: (t ++ y)) = true := by
    rw [List.isPrefixOf_iff_prefix]
    exact ⟨y, by simp⟩
  rw [List.cons_append, Lib.index, hp]
  rfl
theorem cut_found (c : UInt8) (t x y : List UInt8) (h : c ∉ x) : Lib.cut (x ++ (c :: t ++ y)) (c :: t) = (x, y, true) := by
  have hi : Lib.index (x ++ (c :: t ++ y)) (c :: t) = (x.length : Int) := by
    rw [index_skip c t x _ h, index_here]
    simp
  unfold Lib.cut
  rw [hi, if_pos (by omega)]
  simp [List.drop_append, List.drop_eq_nil_of_le]
theorem cut_none (c : UInt8) (t x : List UInt8) (h : c ∉ x) : Lib.cut x (c :: t) = (x, [], false) := by
  have hi : Lib.index x (c :: t) = -1 := by
    have := index_skip c t x [] h
    rw [List.append_nil] at this
    rw [this]
    rfl
  unfold Lib.cut
  rw [hi, if_neg (by omega)]
theorem byte_of (d : Nat) (h : d < 10) : (UInt8.ofNat (48 + d)).toNat = 48 + d := by
  rw [UInt8.toNat_ofNat']
  omega
theorem dec_digits (u : Nat) : ∀ b ∈ Lib.decDigits u, 48 ≤ b.toNat ∧ b.toNat ≤ 57 := by
  induction u using Nat.strongRecOn with
  | _ u ih =>
    intro b hb
    rw [Lib.decDigits] at hb
    split at hb
    · rename_i h
      have : b = UInt8.ofNat (48 + u) := by simpa using hb
      rw [this, byte_of u h]
      omega
    · rename_i h
      rcases List.mem_append.1 hb with h1 | h1
      · exact ih (u / 10) (by omega) b h1
      · have : b = UInt8.ofNat (48 + u % 10) := by simpa using h1
        rw [this, byte_of (u % 10) (by omega)]
        omega
theorem dec_ne (u : Nat) : Lib.decDigits u ≠ [] := by
  rw [Lib.decDigits]
  split <;> simp
theorem parse_snoc (d : UInt8) (hd : 48 ≤ d.toNat ∧ d.toNat ≤ 57) : ∀ (l : List UInt8) (acc v : Nat), Lib.parseUint10 acc l = .ok v → v * 10 + (d.toNat - 48) < 18446744073709551616 → Lib.parseUint10 acc (l ++ [d]) = .ok (v * 10 + (d.toNat - 48))
  | [], acc, v, h, hv => by
    simp only [Lib.parseUint10] at h
    injection h with h
    subst h
    simp only [List.nil_append, Lib.parseUint10]
    rw [if_pos hd, if_neg (by omega), if_neg (by omega)]
  | c :: r, acc, v, h, hv => by
    simp only [List.cons_append, Lib.parseUint10] at h ⊢
    split at h
    · rename_i h1
      rw [if_pos h1]
      split at h
      · cases h
      · rename_i h2
        rw [if_neg h2]
        split at h
        · cases h
        · rename_i h3
          rw [if_neg h3]
          exact parse_snoc d hd r _ v h hv
    · cases h
theorem parse_dec (u : Nat) (h : u < 18446744073709551616) : Lib.parseUint10 0 (Lib.decDigits u) = .ok u := by
  induction u using Nat.strongRecOn with
  | _ u ih =>
    rw [Lib.decDigits]
    split
    · rename_i hu
      have hb := byte_of u hu
      have := parse_snoc (UInt8.ofNat (48 + u)) (by omega) [] 0 0 rfl (by omega)
      rw [List.nil_append] at this
      rw [this]
      congr 1
      omega
    · rename_i hu
      have hb := byte_of (u % 10) (by omega)
      rw [parse_snoc (UInt8.ofNat (48 + u % 10)) (by omega) _ 0 (u / 10) (ih (u / 10) (by omega) (by omega)) (by omega)]
      congr 1
      omega
theorem atoi_neg {r : List UInt8} {u : Nat} (hp : Lib.parseMag r = .ok u) (hu : u ≤ 9223372036854775808) : Lib.atoiAll (45 :: r) = .ok (-(u : Int)) := by
  have e : (45 : UInt8).toNat = 45 := rfl
  unfold Lib.atoiAll
  dsimp only
  rw [if_pos (Or.inr e), hp]
  dsimp only
  rw [if_neg (by rintro ⟨h, _⟩; exact h e), if_neg (by rintro ⟨_, h⟩; omega), if_pos e]
theorem atoi_pos {c : UInt8} {r : List UInt8} {u : Nat} (hc : 48 ≤ c.toNat) (hp : Lib.parseMag (c :: r) = .ok u) (hu : u < 9223372036854775808) : Lib.atoiAll (c :: r) = .ok (u : Int) := by
  unfold Lib.atoiAll
  dsimp only
  rw [if_neg (by omega), hp]
  dsimp only
  rw [if_neg (by omega), if_neg (by omega), if_neg (by omega)]
theorem atoi_itoa (n : Int) (h : -9223372036854775808 ≤ n ∧ n ≤ 9223372036854775807) : Lib.atoiAll (Lib.itoa n) = .ok n := by
  unfold Lib.itoa
  split
  · rename_i h0
    have hp : Lib.parseMag (Lib.decDigits n.natAbs) = .ok n.natAbs := by
      unfold Lib.parseMag
      rw [if_neg (dec_ne _)]
      exact parse_dec _ (by omega)
    rw [atoi_neg hp (by omega)]
    congr 1
    omega
  · rename_i h0
    have hp : Lib.parseMag (Lib.decDigits n.toNat) = .ok n.toNat := by
      unfold Lib.parseMag
      rw [if_neg (dec_ne _)]
      exact parse_dec _ (by omega)
    have hd := dec_digits n.toNat
    have hne := dec_ne n.toNat
    generalize Lib.decDigits n.toNat = l at *
    cases l with
    | nil => exact absurd rfl hne
    | cons c r =>
      rw [atoi_pos (hd c (by simp)).1 hp (by omega)]
      congr 1
      omega
theorem num_itoa (n : Int) (h : -9223372036854775808 ≤ n ∧ n ≤ 9223372036854775807) : num (Lib.itoa n) = n := by
  unfold num
  rw [atoi_itoa n h]
theorem itoa_mem (n : Int) : ∀ b ∈ Lib.itoa n, b.toNat = 45 ∨ (48 ≤ b.toNat ∧ b.toNat ≤ 57) := by
  intro b hb
  unfold Lib.itoa at hb
  split at hb
  · rcases List.mem_cons.1 hb with h | h
    · exact Or.inl (by rw [h]; rfl)
    · exact Or.inr (dec_digits _ b h)
  · exact Or.inr (dec_digits _ b hb)
theorem itoa_not (n : Int) (c : UInt8) (h : c = 32 ∨ c = 44 ∨ c = 120) : c ∉ Lib.itoa n := by
  intro hc
  have := itoa_mem n c hc
  rcases h with rfl | rfl | rfl <;> simp at this
theorem itoa_ne (n : Int) : Lib.itoa n ≠ [] := by
  unfold Lib.itoa
  split
  · simp
  · exact dec_ne _
theorem trim_x (l : List UInt8) : Lib.trimPrefix (120 :: l) [120] = l := by
  have : Lib.hasPrefix (120 :: l) [120] = true := by simp [Lib.hasPrefix, List.isPrefixOf]
  unfold Lib.trimPrefix
  rw [if_pos this]
  rfl
theorem trim_no (l : List UInt8) (h : (120 : UInt8) ∉ l) : Lib.trimPrefix l [120] = l := by
  unfold Lib.trimPrefix
  rw [if_neg]
  cases l with
  | nil => simp [Lib.hasPrefix, List.isPrefixOf]
  | cons c r =>
    have : (120 : UInt8) ≠ c := fun e => h (by simp [e])
    simp [Lib.hasPrefix, List.isPrefixOf, this]
def chkB (k n : Nat) : Bool := !(decide (n = 0) || (decide (63 ≤ k) && decide (k ≤ 84))) || decide (rdName (nmT.getD k [] ++ ordOf n) = (k, n))
def chkN (k n : Nat) : Bool := !(nmT.getD k [] ++ ordOf n).contains 32 && !(nmT.getD k [] ++ ordOf n).contains 10 && decide (dsz (nmT.getD k [] ++ ordOf n) = 0) && decide (nmT.getD k [] ++ ordOf n ≠ [])
theorem chk_all : ((List.range 88).all fun j => (List.range 4).all fun n => chkB (j + 1) n && chkN (j + 1) n) = true := by decide +kernel
theorem chk_at (k n : Nat) (h : k < 89) (h1 : 1 ≤ k) (hn : n < 4) : chkB k n = true ∧ chkN k n = true := by
  have a := List.all_eq_true.1 chk_all (k - 1) (List.mem_range.2 (by omega))
  have b := List.all_eq_true.1 a n (List.mem_range.2 hn)
  rw [show k - 1 + 1 = k by omega] at b
  simpa using b
theorem names_back (k : Nat) (h : k < 89) (h1 : 1 ≤ k) (n : Nat) (hn : n < 4) (hor : n = 0 ∨ (63 ≤ k ∧ k ≤ 84)) : rdName (nmT.getD k [] ++ ordOf n) = (k, n) := by
  have a := (chk_at k n h h1 hn).1
  unfold chkB at a
  have b : (decide (n = 0) || (decide (63 ≤ k) && decide (k ≤ 84))) = true := by simpa using hor
  rw [b] at a
  exact of_decide_eq_true a
theorem names_no (k : Nat) (h : k < 89) (h1 : 1 ≤ k) (n : Nat) (hn : n < 4) : (32 : UInt8) ∉ (nmT.getD k [] ++ ordOf n) ∧ (10 : UInt8) ∉ (nmT.getD k [] ++ ordOf n) ∧ dsz (nmT.getD k [] ++ ordOf n) = 0 ∧ nmT.getD k [] ++ ordOf n ≠ [] := by
  have a := (chk_at k n h h1 hn).2
  unfold chkN at a
  generalize nmT.getD k [] ++ ordOf n = l at *
  simp only [Bool.and_eq_true, decide_eq_true_eq, Bool.not_eq_true', List.contains_eq_mem, decide_eq_false_iff_not] at a
  exact ⟨a.1.1.1, a.1.1.2, a.1.2, a.2⟩
theorem told_no (i : Ins) (p : Int) (c : UInt8) (h : c = 32 ∨ c = 44) : c ∉ told i p := by
  unfold told
  have h3 : c = 32 ∨ c = 44 ∨ c = 120 := by rcases h with h | h <;> simp [h]
  split
  · exact itoa_not _ _ h3
  · split
    · exact itoa_not _ _ h3
    · intro hc
      rcases List.mem_cons.1 hc with h1 | h1
      · rcases h with h | h <;> (rw [h] at h1; exact absurd h1 (by decide))
      · exact itoa_not _ _ h3 h1
/-- Fields within ints. -/
theorem Good.in64 {i : Ins} (h : Good i) : In64 i := by
  have a := h.regs
  have b := a.rd0; have b1 := a.rd1; have c := a.r10; have c1 := a.r11; have d := a.r20; have d1 := a.r21
  have m := h.im
  exact ⟨by omega, by omega, by omega, by omega⟩
/-- What a part is told and read as. -/
def val (i : Ins) (p : Int) : Int := if p = 4 then i.im else fld i p
theorem rdv_told (i : Ins) (h : Good i) (p : Int) (hp : 0 ≤ p ∧ p ≤ 4) (h4 : p = 4 → i.im % 4096 = 0) : rdv p (told i p) = val i p := by
  have hi := h.in64
  have hm := h.im
  have hc : p = 0 ∨ p = 1 ∨ p = 2 ∨ p = 3 ∨ p = 4 := by omega
  rcases hc with rfl | rfl | rfl | rfl | rfl
  · have e1 : told i 0 = 120 :: Lib.itoa i.rd := by simp [told, fld]
    have e2 : rdv 0 (told i 0) = num (Lib.trimPrefix (told i 0) [120]) := by simp [rdv]
    rw [e2, e1, trim_x, num_itoa _ hi.rd]
    simp [val, fld]
  · have e1 : told i 1 = 120 :: Lib.itoa i.r1 := by simp [told, fld]
    have e2 : rdv 1 (told i 1) = num (Lib.trimPrefix (told i 1) [120]) := by simp [rdv]
    rw [e2, e1, trim_x, num_itoa _ hi.r1]
    simp [val, fld]
  · have e1 : told i 2 = 120 :: Lib.itoa i.r2 := by simp [told, fld]
    have e2 : rdv 2 (told i 2) = num (Lib.trimPrefix (told i 2) [120]) := by simp [rdv]
    rw [e2, e1, trim_x, num_itoa _ hi.r2]
    simp [val, fld]
  · have e1 : told i 3 = Lib.itoa i.im := by simp [told]
    have e2 : rdv 3 (told i 3) = num (Lib.trimPrefix (told i 3) [120]) := by simp [rdv]
    rw [e2, e1, trim_no _ (itoa_not _ _ (by simp)), num_itoa _ hi.im]
    simp [val, fld]
  · have h4 := h4 rfl
    simp only [rdv, told, val, if_pos]
    rw [trim_no _ (itoa_not _ _ (by simp)), num_itoa _ (by unfold up; omega), low32]
    unfold up
    omega
theorem rd_step (i I : Ins) (p q : Int) (qs : List Int) : rdAll (p :: q :: qs) I (told i p ++ tl i [44, 32] (q :: qs)) = rdAll (q :: qs) (setF I p (rdv p (told i p))) (told i q ++ tl i [44, 32] qs) := by
  have h : Lib.cut (told i p ++ tl i [44, 32] (q :: qs)) [44, 32] = (told i p, told i q ++ tl i [44, 32] qs, true) := by
    have := cut_found 44 [32] (told i p) (told i q ++ tl i [44, 32] qs) (told_no i p 44 (Or.inr rfl))
    simpa [tl] using this
  conv => lhs; unfold rdAll
  rw [h]
theorem rd_last (i I : Ins) (p : Int) : rdAll [p] I (told i p ++ tl i [44, 32] []) = setF I p (rdv p (told i p)) := by
  have h : Lib.cut (told i p ++ tl i [44, 32] []) [44, 32] = (told i p, [], false) := by
    have := cut_none 44 [32] (told i p) (told_no i p 44 (Or.inr rfl))
    simpa [tl] using this
  unfold rdAll
  rw [h]
  rfl
theorem head_cut (i : Ins) (k n : Nat) (hk : k < 89) (h1 : 1 ≤ k) (hn : n < 4) (ps : List Int) :
    Lib.cut (nmT.getD k [] ++ ordOf n ++ tl i [32] ps) [32] = (nmT.getD k [] ++ ordOf n, match ps with | [] => [] | p :: qs => told i p ++ tl i [44, 32] qs, decide (ps ≠ [])) := by
  have hno := (names_no k hk h1 n hn).1
  cases ps with
  | nil =>
    have := cut_none 32 [] _ hno
    simpa [tl] using this
  | cons p qs =>
    have := cut_found 32 [] _ (told i p ++ tl i [44, 32] qs) hno
    simpa [tl] using this
theorem nm_nat (k : Nat) (h1 : 1 ≤ k) (hk : k < 89) : nm (k : Int) = nmT.getD k [] := by
  unfold nm
  rw [if_pos (by omega)]
  simp
set_option maxHeartbeats 1000000 in
theorem read_text (i : Ins) (h : Good i) : readL (textL i) = i := by
  have hR := h.regs
  have ho := h.op
  obtain ⟨k, hk⟩ : ∃ k : Nat, i.op = (k : Int) := ⟨i.op.toNat, by omega⟩
  obtain ⟨n, hn⟩ : ∃ n : Nat, i.od = (n : Int) := ⟨i.od.toNat, by have := hR.od0; omega⟩
  have hn4 : n < 4 := by have := hR.od1; omega
  have hon : n = 0 ∨ (63 ≤ k ∧ k ≤ 84) := by
    by_cases h1 : 63 ≤ k ∧ k ≤ 84
    · exact Or.inr h1
    · have := h.od (by rw [hk]; omega)
      exact Or.inl (by omega)
  have hT : textL i = nmT.getD k [] ++ ordOf n ++ tl i [32] (prt (frm k)) := by
    unfold textL
    rw [hk, hn, nm_nat k (by omega) (by omega)]
    simp
  have hb := names_back k (by omega) (by omega) n hn4 hon
  have hc := head_cut i k n (by omega) (by omega) hn4 (prt (frm k))
  unfold readL
  rw [hT, hc]
  simp only [hb]
  have hrd := h.rd; have hr1 := h.r1; have hr2 := h.r2; have him := h.im0; have hup := h.up
  have hsz := hR.sz
  rw [hk] at hrd hr1 hr2 him hup
  obtain ⟨p1, p2, p3, p4, p5, p6, p7, p8, p9, p0⟩ := prt_one
  have hv : ∀ p, 0 ≤ p ∧ p ≤ 4 → (p = 4 → i.im % 4096 = 0) → rdv p (told i p) = val i p := fun p hp h4 => rdv_told i h p hp h4
  clear hT hc hb hon hn4 ho hR h
  obtain ⟨o, d, r, t, m, od, sz⟩ := i
  simp only at *
  subst hk hn hsz
  generalize hF : frm (k : Int) = f at *
  rcases prt_cases (k : Int) with h0 | h0
  · rw [hF] at h0
    subst h0
    rw [p0]
    simp [rdAll, hrd, hr1, hr2, him]
  · rw [hF] at h0
    have h9 : f = 1 ∨ f = 2 ∨ f = 3 ∨ f = 4 ∨ f = 5 ∨ f = 6 ∨ f = 7 ∨ f = 8 ∨ f = 9 := by omega
    rcases h9 with rfl | rfl | rfl | rfl | rfl | rfl | rfl | rfl | rfl
    · rw [p1]
      dsimp only
      rw [rd_step, rd_last, hv 0 (by decide) (fun h => by omega), hv 4 (by decide) (fun _ => hup rfl)]
      simp [setF, val, fld, hr1, hr2]
    · rw [p2]
      dsimp only
      rw [rd_step, rd_last, hv 0 (by decide) (fun h => by omega), hv 3 (by decide) (fun h => by omega)]
      simp [setF, val, fld, hr1, hr2]
    · rw [p3]
      dsimp only
      rw [rd_step, rd_step, rd_last, hv 0 (by decide) (fun h => by omega), hv 3 (by decide) (fun h => by omega), hv 1 (by decide) (fun h => by omega)]
      simp [setF, val, fld, hr2]
    · rw [p4]
      dsimp only
      rw [rd_step, rd_step, rd_last, hv 1 (by decide) (fun h => by omega), hv 2 (by decide) (fun h => by omega), hv 3 (by decide) (fun h => by omega)]
      simp [setF, val, fld, hrd]
    · rw [p5]
      dsimp only
      rw [rd_step, rd_step, rd_last, hv 2 (by decide) (fun h => by omega), hv 3 (by decide) (fun h => by omega), hv 1 (by decide) (fun h => by omega)]
      simp [setF, val, fld, hrd]
    · rw [p6]
      dsimp only
      rw [rd_step, rd_step, rd_last, hv 0 (by decide) (fun h => by omega), hv 1 (by decide) (fun h => by omega), hv 3 (by decide) (fun h => by omega)]
      simp [setF, val, fld, hr2]
    · rw [p7]
      dsimp only
      rw [rd_step, rd_step, rd_last, hv 0 (by decide) (fun h => by omega), hv 1 (by decide) (fun h => by omega), hv 2 (by decide) (fun h => by omega)]
      simp [setF, val, fld, him]
    · rw [p8]
      dsimp only
      rw [rd_step, rd_last, hv 0 (by decide) (fun h => by omega), hv 1 (by decide) (fun h => by omega)]
      simp [setF, val, fld, hr2, him]
    · rw [p9]
      dsimp only
      rw [rd_step, rd_step, rd_last, hv 0 (by decide) (fun h => by omega), hv 2 (by decide) (fun h => by omega), hv 1 (by decide) (fun h => by omega)]
      simp [setF, val, fld, him]
theorem okP_text (i : Ins) (h : encB i = true) : okP (textL i) = true := by
  unfold okP
  rw [read_text i (good_of h), h]
  simp
/-- A text of an instruction is no line of data, nor empty, nor more than a line. -/
theorem text_line (i : Ins) (h : Good i) : isData (textL i) = false ∧ textL i ≠ [] ∧ (10 : UInt8) ∉ textL i := by
  have hR := h.regs
  have ho := h.op
  obtain ⟨k, hk⟩ : ∃ k : Nat, i.op = (k : Int) := ⟨i.op.toNat, by omega⟩
  obtain ⟨n, hn⟩ : ∃ n : Nat, i.od = (n : Int) := ⟨i.od.toNat, by have := hR.od0; omega⟩
  have hn4 : n < 4 := by have := hR.od1; omega
  have hT : textL i = nmT.getD k [] ++ ordOf n ++ tl i [32] (prt (frm k)) := by
    unfold textL
    rw [hk, hn, nm_nat k (by omega) (by omega)]
    simp
  have hc := head_cut i k n (by omega) (by omega) hn4 (prt (frm k))
  obtain ⟨a1, a2, a3, a4⟩ := names_no k (by omega) (by omega) n hn4
  have t10 : ∀ p, (10 : UInt8) ∉ told i p := by
    intro p
    have hx : ∀ m, (10 : UInt8) ∉ Lib.itoa m := fun m hm => by have := itoa_mem m 10 hm; simp at this
    unfold told
    split
    · exact hx _
    · split
      · exact hx _
      · intro hm
        rcases List.mem_cons.1 hm with h1 | h1
        · exact absurd h1 (by decide)
        · exact hx _ h1
  have tl10 : ∀ (ps : List Int) (b : List UInt8), (10 : UInt8) ∉ b → (10 : UInt8) ∉ tl i b ps := by
    intro ps
    induction ps with
    | nil => intro b _; simp [tl]
    | cons p qs ih =>
      intro b hb
      have := ih [44, 32] (by decide)
      have := t10 p
      simp only [tl, List.mem_append, not_or]
      exact ⟨⟨hb, t10 p⟩, ih [44, 32] (by decide)⟩
  rw [hT]
  refine ⟨?_, ?_, ?_⟩
  · unfold isData
    rw [hc]
    simp only [a3]
    simp
  · intro h
    exact a4 (List.append_eq_nil_iff.1 h).1
  · intro h
    rcases List.mem_append.1 h with h1 | h1
    · exact a2 h1
    · exact tl10 _ _ (by decide) h1

end Go.Proofs.YtionnhjldcpmjaaGreatDoor
