/-
  Two texts, one behind the other.
-/
import Derived.Test.YtionnhjldcpmjaaGreatDoorAsmV
set_option linter.unusedVariables false
set_option linter.unusedSimpArgs false
namespace Go.Proofs.YtionnhjldcpmjaaGreatDoor
open Go.RowKit

set_option maxRecDepth 100000
set_option maxHeartbeats 1000000 in
theorem same_big (A B : Option Addr) (len cap cap' : Nat) (xs : List Int) (w : World) (hr : Rd w A xs) (hr' : Rd w B xs) (hl : xs.length = len) (hm : len ≤ 1000000) :
    Calls Tryz.prog 20 #[.slice A len cap, .slice B len cap'] w fun e w' => e = .returned (.bool true) ∧ ∃ m, w' = w.drewN m := by
  have HR := Lib.hid hr; clear hr
  have HR' := Lib.hid hr'; clear hr'
  have HL := Lib.hid hl; clear hl
  go_enter Tryz.func20, Tryz.ntmps20
  go_wp2
  go_loopw [5] (fun i wr => ∃ k m : Nat, k ≤ len ∧ i = .int .i64 k ∧ wr = w.drewN m) (fun i _ => len - (intOf i).toNat)
  case atStart => exact ⟨0, 0, by omega, rfl, rfl⟩
  case round =>
    obtain ⟨k, m, hk, rfl, rfl⟩ := hrel
    by_cases hlt : k < len
    · obtain ⟨b, off, hA, hcell⟩ := HR.out.at_ k (by rw [HL.out]; omega)
      subst hA
      obtain ⟨b', off', hA, hcell'⟩ := HR'.out.at_ k (by rw [HL.out]; omega)
      subst hA
      generalize xs.getD k 0 = x at *
      have hin : (k : Int) < (len : Int) := by omega
      go_wp2
      go_quiet (fail)
      go_wp2
      go_roundw
      case rel => exact ⟨k + 1, m + nq, by omega, by go_num, rfl⟩
      case measure => simp [intOf]; omega
    · obtain rfl : k = len := by omega
      go_wp2
      go_ret
      exact ⟨rfl, _, rfl⟩


/-- append(append([]byte{}, x...), y...). -/
theorem two_run (W : World) (A B : Option Addr) (l m c d : Nat) (xs ys : List Int) (hx : Rd W A xs) (hy : Rd W B ys) (hl : xs.length = l) (hm : ys.length = m) (hc : A = none → c = 0) (hd : B = none → d = 0) (hb : l + m ≤ 1000000) :
    ∃ v1 w1 C k w2, (Builtin.append_ #[38, 38] 38 #[.slice (some ⟨W.heap.size, 0, none⟩) 0 0, .slice A l c]).run Tryz.prog (W.alloc (.cells #[] 5)) = .ok v1 w1 ∧
      (Builtin.append_ #[38, 38] 38 #[v1, .slice B m d]).run Tryz.prog w1 = .ok (.slice C (l + m) k) w2 ∧ Rd w2 C (xs ++ ys) ∧ Bl W w2 := by
  obtain ⟨i0, hi0, hz0, hz1, hz2⟩ := info_parts Tryz.infoByte
  obtain ⟨v1, w1, h1, h2, h3⟩ := run_appended (P := Tryz.prog) (W.alloc (.cells #[] 5)) 38 5 38 W.heap.size i0 Tryz.underlying38 hi0 hz0 hz1 hz2 _ 0 [] (own_empty W) A l c xs (hx.alloc _) hl hc (by omega) (by simp)
  have hb1 : Bl W w1 := ((Below.refl _ _).alloc (Nat.le_refl _) _).grown h3 (by simp) (own_block_ge (own_empty W))
  obtain ⟨v2, w2, g1, g2, g3⟩ := run_appended (P := Tryz.prog) w1 38 5 38 W.heap.size i0 Tryz.underlying38 hi0 hz0 hz1 hz2 v1 (0 + l) ([] ++ xs) h2 B m d ys (hy.below hb1) hm hd (by omega) hb1.size
  have hb2 : Bl W w2 := hb1.grown g3 hb1.size (own_block_ge h2)
  obtain ⟨C, k, rfl, hrd, _, _, _⟩ := Rd.of_own g2
  exact ⟨v1, w1, C, k, w2, h1, by simpa using g1, by simpa using hrd, hb2⟩
/-! Lines of two texts, one behind the other. -/
def pieces : List UInt8 → List (List UInt8)
  | [] => [[]]
  | c :: r => if c = 10 then [] :: pieces r else match pieces r with | [] => [[c]] | p :: ps => (c :: p) :: ps
theorem pieces_ne : ∀ a, pieces a ≠ []
  | [] => by simp [pieces]
  | c :: r => by
    unfold pieces
    split
    · simp
    · split <;> simp
theorem pieces_len : ∀ a, (pieces a).length = 1 + a.count 10
  | [] => rfl
  | c :: r => by
    have ih := pieces_len r
    unfold pieces
    split
    · rename_i h
      rw [h, List.length_cons, ih, List.count_cons_self]
      omega
    · rename_i h
      rw [List.count_cons_of_ne h]
      have hn := pieces_ne r
      cases hp : pieces r with
      | nil => exact absurd hp hn
      | cons p ps =>
        rw [hp] at ih
        simpa using ih
theorem pieces_one : ∀ x, (10 : UInt8) ∉ x → pieces x = [x]
  | [], _ => rfl
  | c :: r, h => by
    have hc : c ≠ 10 := fun e => h (by simp [e])
    unfold pieces
    rw [if_neg hc, pieces_one r (fun e => h (by simp [e]))]
theorem pieces_at : ∀ (x y : List UInt8), (10 : UInt8) ∉ x → pieces (x ++ 10 :: y) = x :: pieces y
  | [], y, _ => by simp [pieces]
  | c :: r, y, h => by
    have hc : c ≠ 10 := fun e => h (by simp [e])
    rw [List.cons_append]
    conv => lhs; unfold pieces
    rw [if_neg hc, pieces_at r y (fun e => h (by simp [e]))]
theorem nl_split : ∀ a : List UInt8, (10 : UInt8) ∉ a ∨ ∃ x y, a = x ++ 10 :: y ∧ (10 : UInt8) ∉ x
  | [] => Or.inl (by simp)
  | c :: r => by
    by_cases hc : c = 10
    · exact Or.inr ⟨[], r, by simp [hc], by simp⟩
    · rcases nl_split r with h | ⟨x, y, h1, h2⟩
      · exact Or.inl (by simp [h, Ne.symm hc])
      · exact Or.inr ⟨c :: x, y, by simp [h1], by simp [h2, Ne.symm hc]⟩
theorem lines_one (x : List UInt8) (h : (10 : UInt8) ∉ x) (hx : x ≠ []) : linesL x = [x] := by
  rw [linesL_cons x hx, cut_none 10 [] x h, linesL_nil]
theorem lines_at (x y : List UInt8) (h : (10 : UInt8) ∉ x) : linesL (x ++ 10 :: y) = x :: linesL y := by
  have hc : Lib.cut (x ++ 10 :: y) [10] = (x, y, true) := by
    have := cut_found 10 [] x y h
    simpa using this
  rw [linesL_cons _ (by simp), hc]
theorem lines_joined (b : List UInt8) : ∀ (n : Nat) (a : List UInt8), a.length ≤ n → linesL (a ++ 10 :: b) = pieces a ++ linesL b
  | n, a, hn => by
    rcases nl_split a with h | ⟨x, y, rfl, h⟩
    · rw [lines_at a b h, pieces_one a h]
      rfl
    · rw [pieces_at x y h, List.append_assoc, List.cons_append, lines_at x _ h]
      cases n with
      | zero => simp at hn
      | succ n =>
        rw [lines_joined b n y (by simp at hn; omega)]
        rfl
theorem pieces_lines : ∀ (n : Nat) (a : List UInt8), a.length ≤ n → pieces a = linesL a ∨ pieces a = linesL a ++ [[]]
  | n, a, hn => by
    rcases nl_split a with h | ⟨x, y, rfl, h⟩
    · by_cases ha : a = []
      · subst ha
        exact Or.inr rfl
      · exact Or.inl (by rw [pieces_one a h, lines_one a h ha])
    · rw [pieces_at x y h, lines_at x y h]
      cases n with
      | zero => simp at hn
      | succ n =>
        rcases pieces_lines n y (by simp at hn; omega) with e | e
        · exact Or.inl (by rw [e])
        · exact Or.inr (by rw [e]; rfl)
theorem asmR_append (V : List UInt8 → Option (Int × Nat)) : ∀ (l m : List (List UInt8)) (n : Nat) (acc : List Int), asmR V (l ++ m) n acc = match asmR V l n acc with | .ok x => asmR V m (n + l.length) x | .bad k => .bad k
  | [], m, n, acc => by simp [asmR]
  | t :: l, m, n, acc => by
    simp only [List.cons_append, asmR]
    cases hV : V t with
    | none => rfl
    | some xk =>
      obtain ⟨x, k⟩ := xk
      dsimp only
      rw [asmR_append V l m (n + 1) (acc ++ putB x k)]
      rw [show n + 1 + l.length = n + (t :: l).length by simp; omega]
theorem asmR_shift (V : List UInt8 → Option (Int × Nat)) : ∀ (l : List (List UInt8)) (n : Nat) (acc acc' : List Int) (d : Nat), asmR V l (n + d) (acc' ++ acc) = match asmR V l n acc with | .ok x => .ok (acc' ++ x) | .bad k => .bad (k + d)
  | [], n, acc, acc', d => by simp [asmR]
  | t :: l, n, acc, acc', d => by
    simp only [asmR]
    cases hV : V t with
    | none => rfl
    | some xk =>
      obtain ⟨x, k⟩ := xk
      dsimp only
      rw [List.append_assoc, show n + d + 1 = n + 1 + d by omega, asmR_shift V l (n + 1) (acc ++ putB x k) acc' d]
theorem asmR_len (V : List UInt8 → Option (Int × Nat)) (hk : ∀ l x k, V l = some (x, k) → k ≤ 8) : ∀ (l : List (List UInt8)) (n : Nat) (acc bs : List Int), asmR V l n acc = .ok bs → bs.length ≤ acc.length + 8 * l.length
  | [], n, acc, bs, h => by
    simp only [asmR] at h
    injection h with h
    rw [h]; simp
  | t :: l, n, acc, bs, h => by
    simp only [asmR] at h
    cases hV : V t with
    | none => rw [hV] at h; cases h
    | some xk =>
      obtain ⟨x, k⟩ := xk
      rw [hV] at h
      have := asmR_len V hk l (n + 1) _ bs h
      have h8 := hk t x k hV
      rw [List.length_append, putB_length] at this
      rw [List.length_cons]
      omega
theorem asmR_bad (V : List UInt8 → Option (Int × Nat)) : ∀ (l : List (List UInt8)) (n : Nat) (acc : List Int) (m : Nat), asmR V l n acc = .bad m → m < n + l.length
  | [], n, acc, m, h => by simp only [asmR] at h; cases h
  | t :: l, n, acc, m, h => by
    simp only [asmR] at h
    cases hV : V t with
    | none =>
      rw [hV] at h
      injection h with h
      simp
      omega
    | some xk =>
      obtain ⟨x, k⟩ := xk
      rw [hV] at h
      have := asmR_bad V l (n + 1) _ m h
      simp
      omega
theorem asmR_pieces (a : List UInt8) (acc : List Int) (n : Nat) : asmR lineV (pieces a) n acc = asmR lineV (linesL a) n acc := by
  rcases pieces_lines _ a (Nat.le_refl _) with e | e
  · rw [e]
  · rw [e, asmR_append]
    cases h : asmR lineV (linesL a) n acc with
    | bad k => rfl
    | ok x => simp [asmR, lineV_nil, putB]
theorem asmT_joined (a b : List UInt8) : asmT (a ++ 10 :: b) = match asmT a with | .bad k => .bad k | .ok x => match asmT b with | .ok y => .ok (x ++ y) | .bad k => .bad (k + (1 + a.count 10)) := by
  unfold asmT
  rw [lines_joined b _ a (Nat.le_refl _), asmR_append, asmR_pieces]
  cases h : asmR lineV (linesL a) 1 [] with
  | bad k => rfl
  | ok x =>
    dsimp only
    rw [pieces_len]
    have := asmR_shift lineV (linesL b) 1 [] x (1 + a.count 10)
    rw [List.append_nil] at this
    rw [this]
theorem asmT_len (t : List UInt8) (bs : List Int) (h : asmT t = .ok bs) : bs.length ≤ 8 * t.length := by
  have h1 := asmR_len lineV lineV_le _ 1 [] bs h
  have h2 := linesL_len t.length t (Nat.le_refl _)
  simp at h1
  omega
theorem asmT_bad (t : List UInt8) (m : Nat) (h : asmT t = .bad m) : m ≤ t.length := by
  have h1 := asmR_bad lineV _ 1 [] m h
  have h2 := linesL_len t.length t (Nat.le_refl _)
  omega
/-- What Assemble hands back, part for part. -/
def AsmF (R : Asm) (w' : World) (A : Option Addr) (l c : Nat) (n er : Int) : Prop :=
  match R with
  | .ok bs => l = bs.length ∧ n = 0 ∧ er = 0 ∧ Rd w' A bs ∧ (A = none → c = 0)
  | .bad m => A = none ∧ l = 0 ∧ c = 0 ∧ n = (m : Nat) ∧ er = 201
theorem asm_tuple (t : List UInt8) (a : Addr) (w : World) (hE : Env a w) (ht : t.length ≤ 100000) :
    Calls Tryz.prog 19 #[str t] w fun e w' => (∃ A l c n er, e = .returned (.tuple #[.slice A l c, .int .i64 n, .int .i64 er]) ∧ AsmF (asmT t) w' A l c n er) ∧ Bl w w' := by
  refine (asm_any t a w hE ht).mono ?_
  rintro e w' ⟨h, hb⟩
  refine ⟨?_, hb⟩
  cases hR : asmT t with
  | ok bs =>
    rw [hR] at h
    obtain ⟨A, c, h1, h2, h3⟩ := h
    exact ⟨A, bs.length, c, 0, 0, h1, rfl, rfl, rfl, h2, h3⟩
  | bad m =>
    rw [hR] at h
    exact ⟨none, 0, 0, _, _, h, rfl, rfl, rfl, rfl, rfl⟩
theorem idxL (l : List UInt8) (k : Nat) (hk : k < l.length) (w : World) : (Instr.index 9 (str l) (.int .i64 (k : Int))).run Tryz.prog w = .ok (.int .u8 ((l.getD k 0).toNat : Int)) w := by
  have hs : (⟨l.toArray⟩ : ByteArray).size = l.length := by simp [ByteArray.size]
  rw [run_index_string w 9 _ .i64 (k : Int) Tryz.underlying9, dif_pos (by rw [hs]; omega)]
  simp only [List.getD, List.getElem?_eq_getElem hk]
  rfl
theorem count_step (l : List UInt8) (k : Nat) (hk : k < l.length) : (l.take (k + 1)).count 10 = (l.take k).count 10 + if l.getD k 0 = 10 then 1 else 0 := by
  rw [List.take_succ_eq_append_getElem hk, List.count_append]
  have hg : l.getD k 0 = l[k] := by simp [List.getD, List.getElem?_eq_getElem hk]
  rw [hg]
  by_cases h : l[k] = 10
  · rw [if_pos h, h]; rfl
  · rw [if_neg h, List.count_cons_of_ne h]; rfl

end Go.Proofs.YtionnhjldcpmjaaGreatDoor
