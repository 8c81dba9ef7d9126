/-
  Peek, Protect, Unmap, Check, Out of a space.
-/
import Derived.Test.YtepffglljmekiaaGreatQ29
set_option linter.unusedVariables false
set_option linter.unusedSimpArgs false
namespace Go.Proofs.YtepffglljmekiaaGreat
open Go.RowKit
set_option maxRecDepth 100000
set_option maxHeartbeats 1000000 in
theorem mpeek_any {T : Nat → Prop} {w : World} {sb n : Nat} {L : List Rg} {M st : Nat → Int} {mo ba en : Int} (h : MS T w sb n L M st mo ba en) (a m : Nat) (ha : a < 2 ^ 64) (h1 : 1 ≤ m) (h2 : m ≤ 4194304) :
    Calls Tryz.prog 8 #[addr0 sb, .int .u64 (a : Int), .int .i64 (m : Int)] w (ReadPost w M a m) := by
  obtain ⟨rg, f, k0, h3, _, _⟩ := h.ex
  have cr := read_any h3 a m ha h1 h2
  have CR := Lib.hid cr; clear cr h3 h
  unfold addr0
  go_enter Tryz.func8, Tryz.ntmps8
  go_wp2_with fail
  refine CR.out.mono ?_
  rintro e w1 ⟨rfl, hb, k1⟩
  have HB := Lib.hid hb; clear hb
  have K1 := Lib.hid k1; clear k1 CR
  go_wp2_with fail
  go_ret
  exact ⟨rfl, HB.out, K1.out⟩
/-- What a Protect does, and when. -/
def ProtAny (T : Nat → Prop) (w : World) (sb n : Nat) (L : List Rg) (M st : Nat → Int) (mo ba en : Int) (a b : Nat) (p r : Int) (w' : World) : Prop :=
  (r = 0 ∧ Span (a : Int) (b : Int) ∧ 0 ≤ p ∧ p ≤ 7 ∧ Mapped L a b ∧ (layL L a b [⟨a, b, p⟩]).length ≤ 256 ∧ ∃ st', MS T w' sb (n + 8192) (layL L a b [⟨a, b, p⟩]) M st' mo ba en ∧ Rise st st' (fun q => a ≤ q * 4096 ∧ q * 4096 < b) ∧ Fr T w w') ∨
  (r ≠ 0 ∧ ¬ (Span (a : Int) (b : Int) ∧ 0 ≤ p ∧ p ≤ 7 ∧ Mapped L a b ∧ (layL L a b [⟨a, b, p⟩]).length ≤ 256) ∧ Bl w w')
theorem mtouch_any {T : Nat → Prop} {w : World} {sb n : Nat} {L : List Rg} {M st : Nat → Int} {mo ba en : Int} (h : MS T w sb n L M st mo ba en) (a b : Nat) (ha : a % 4096 = 0) (hb : b % 4096 = 0) (hab : a < b) (hbt : b ≤ 274877906944) (hn : n < 80000000) (hT : ∀ b, w.heap.size ≤ b → T b) :
    Calls Tryz.prog 70 #[.pointer (some ⟨sb, 1, none⟩), .int .u64 (a : Int), .int .u64 (b : Int)] w fun e w' => e = .returned (.tuple #[]) ∧ ∃ st', MS T w' sb (n + 8192) L M st' mo ba en ∧ Rise st st' (fun q => a ≤ q * 4096 ∧ q * 4096 < b) ∧ Fr T w w' := by
  obtain ⟨rg, f, k0, h1, h2, h3⟩ := h.ex
  refine (touch_any h1 a b hab hbt hn (off_new h2 hT)).mono ?_
  rintro e w' ⟨rfl, ⟨st', h4, hr⟩, hf⟩
  exact ⟨rfl, st', h.stored h2 h3 h4 hf h.by_, hr.mono fun p hp => by omega, hf.off_of⟩
/-- The list's own Protect, in all its ways. -/
theorem lprotect_any {X : Ctx} {w : World} {b0 : Nat} {L : List Rg} (h : ListAt X w b0 L) (hrs : Rs L) (hl : L.length ≤ 256) (a b : Nat) (p : Int) (ha : a < 2 ^ 64) (hb : b < 2 ^ 64) :
    Calls Tryz.prog 69 #[addr0 b0, .int .u64 (a : Int), .int .u64 (b : Int), .int .i64 p] w fun e w' => ∃ r, e = .returned (.int .i64 r) ∧
      ((r = 0 ∧ Span (a : Int) (b : Int) ∧ 0 ≤ p ∧ p ≤ 7 ∧ Mapped L a b ∧ (layL L a b [⟨a, b, p⟩]).length ≤ 256 ∧ ListFrom X w.heap.size w' b0 (layL L a b [⟨a, b, p⟩]) ∧ Fr (only b0) w w') ∨
       (r ≠ 0 ∧ ¬ (Span (a : Int) (b : Int) ∧ 0 ≤ p ∧ p ≤ 7 ∧ Mapped L a b ∧ (layL L a b [⟨a, b, p⟩]).length ≤ 256) ∧ Bl w w')) := by
  by_cases hs : Span (a : Int) (b : Int) ∧ 0 ≤ p ∧ p ≤ 7
  · obtain ⟨hs, hp0, hp1⟩ := hs
    by_cases hm : Mapped L a b
    · rcases Nat.lt_or_ge 256 (layL L a b [⟨a, b, p⟩]).length with hc | hc
      · refine (protect_many h hrs.nm.so a b p (by omega) hs hp0 hp1 hl hm hc).mono ?_
        rintro e w' ⟨rfl, k⟩
        exact ⟨12, rfl, .inr ⟨by omega, fun e => by omega, k⟩⟩
      · refine (protect_ok h hrs.nm.so a b p (by omega) hs hp0 hp1 hl hm hc).mono ?_
        rintro e w' ⟨rfl, k, f⟩
        exact ⟨0, rfl, .inl ⟨rfl, hs, hp0, hp1, hm, hc, k, f⟩⟩
    · refine (protect_hole h hrs.nm.so a b p (by omega) hs hp0 hp1 hl hm).mono ?_
      rintro e w' ⟨rfl, k⟩
      exact ⟨12, rfl, .inr ⟨by omega, fun e => hm e.2.2.2.1, k⟩⟩
  · refine (protect_no b0 a b p (by omega) (by omega) (by omega) (by omega) hs).mono ?_
    rintro e w' ⟨rfl, k⟩
    exact ⟨22, rfl, .inr ⟨by omega, fun e => hs ⟨e.1, e.2.1, e.2.2.1⟩, k⟩⟩
set_option maxHeartbeats 2000000 in
theorem mprotect_any {T : Nat → Prop} {w : World} {sb n : Nat} {L : List Rg} {M st : Nat → Int} {mo ba en : Int} (h : MS T w sb n L M st mo ba en) (a b : Nat) (size p : Int) (ha : a < 2 ^ 64) (hb : (b : Int) = IntKind.u64.wrap (a + upW size)) (hn : n < 80000000) (hT : ∀ b, w.heap.size ≤ b → T b) :
    Calls Tryz.prog 28 #[addr0 sb, .int .u64 (a : Int), .int .u64 size, .int .i64 p] w fun e w' => ∃ r, e = .returned (.int .i64 r) ∧ ProtAny T w sb n L M st mo ba en a b p r w' := by
  have hb2 : b < 2 ^ 64 := by have := wrap_in (a + upW size); omega
  obtain ⟨X, hX⟩ := h.list
  have cl := lprotect_any hX h.rs h.few a b p ha hb2
  have cu := fun W => mup_any size W
  have CU := Lib.hid cu; clear cu
  have CL := Lib.hid cl; clear cl
  have HX := Lib.hid hX; clear hX
  have H := Lib.hid h; clear h
  have HT := Lib.hid hT; clear hT
  have HB := Lib.hid hb; clear hb
  generalize upW size = us at *
  have hx0 : (0 : Int) ≤ (a : Int) := by omega
  unfold addr0 at *
  go_enter Tryz.func28, Tryz.ntmps28
  go_wp2_with fail
  refine (CU.out _).mono ?_
  rintro e w' ⟨rfl, rfl⟩
  go_wp2_with fail
  rw [← HB.out]
  refine CL.out.mono ?_
  rintro e w1 ⟨r, rfl, hr⟩
  clear CL CU
  rcases hr with ⟨rfl, s1, p0, p1, hm, hc, hl, hf⟩ | ⟨hr, hno, k⟩
  · have h1 := H.out.laid HX.out hl hf (H.out.rs.lay (by omega) s1) hc HT.out
    have f1 : Fr T w w1 := hf.only_of H.out.own
    have H1 := Lib.hid h1
    have F1 := Lib.hid f1
    have S1 := Lib.hid s1
    have HM := Lib.hid hm
    have HC := Lib.hid hc
    clear h1 f1 s1 hm hc hl hf
    go_wp2_with fail
    refine (mtouch_any H1.out a b (by have := S1.out.1; omega) (by have := S1.out.2.1; omega) (by have := S1.out.2.2.1; omega) (by have := S1.out.2.2.2; omega) hn (fun b hb => HT.out b (Nat.le_trans F1.out.size hb))).mono ?_
    rintro e w2 ⟨rfl, st', m2, r2, f2⟩
    have M2 := Lib.hid m2; clear m2
    have R2 := Lib.hid r2; clear r2
    have F2 := Lib.hid f2; clear f2
    go_wp2_with fail
    go_ret
    exact ⟨0, rfl, .inl ⟨rfl, S1.out, p0, p1, HM.out, HC.out, st', M2.out, R2.out, F1.out.trans F2.out⟩⟩
  · have t5 : (r != 0) = true := by simp [hr]
    have HR := Lib.hid hr; clear hr
    have HNO := Lib.hid hno; clear hno
    have K := Lib.hid k; clear k
    go_wp2_with fail
    go_ret
    exact ⟨r, rfl, .inr ⟨HR.out, HNO.out, K.out⟩⟩
/-- What an Unmap does, and when. -/
def UnmapAny (T : Nat → Prop) (w : World) (sb n : Nat) (L : List Rg) (M st : Nat → Int) (mo ba en : Int) (a b : Nat) (r : Int) (w' : World) : Prop :=
  (r = 0 ∧ Span (a : Int) (b : Int) ∧ (layL L a b []).length ≤ 256 ∧ ClearPost T w sb n (layL L a b []) M st mo ba en a b w') ∨ (r ≠ 0 ∧ ¬ (Span (a : Int) (b : Int) ∧ (layL L a b []).length ≤ 256) ∧ Bl w w')
theorem lunmap_any {X : Ctx} {w : World} {b0 : Nat} {L : List Rg} (h : ListAt X w b0 L) (hl : L.length ≤ 256) (a b : Nat) (ha : a < 2 ^ 64) (hb : b < 2 ^ 64) :
    Calls Tryz.prog 67 #[addr0 b0, .int .u64 (a : Int), .int .u64 (b : Int)] w fun e w' => ∃ r, e = .returned (.int .i64 r) ∧
      ((r = 0 ∧ Span (a : Int) (b : Int) ∧ (layL L a b []).length ≤ 256 ∧ ListFrom X w.heap.size w' b0 (layL L a b []) ∧ Fr (only b0) w w') ∨ (r ≠ 0 ∧ ¬ (Span (a : Int) (b : Int) ∧ (layL L a b []).length ≤ 256) ∧ Bl w w')) := by
  by_cases hs : Span (a : Int) (b : Int)
  · rcases Nat.lt_or_ge 256 (layL L a b []).length with hc | hc
    · refine (unmap_many h a b (by omega) hs hl hc).mono ?_
      rintro e w' ⟨rfl, k⟩
      exact ⟨12, rfl, .inr ⟨by omega, fun e => by omega, k⟩⟩
    · refine (unmap_ok h a b (by omega) hs hl hc).mono ?_
      rintro e w' ⟨rfl, k, f⟩
      exact ⟨0, rfl, .inl ⟨rfl, hs, hc, k, f⟩⟩
  · refine (unmap_no b0 a b (by omega) (by omega) (by omega) (by omega) hs).mono ?_
    rintro e w' ⟨rfl, k⟩
    exact ⟨22, rfl, .inr ⟨by omega, fun e => hs e.1, k⟩⟩
set_option maxHeartbeats 2000000 in
theorem munmap_of {T : Nat → Prop} {w : World} {sb n : Nat} {L : List Rg} {M st : Nat → Int} {mo ba en : Int} (h : MS T w sb n L M st mo ba en) (a b : Nat) (size : Int) (ha : a < 2 ^ 64) (hb : (b : Int) = IntKind.u64.wrap (a + upW size)) (hn : n < 80000000) (hT : ∀ b, w.heap.size ≤ b → T b)
    (hcl : ∀ W L', a % 4096 = 0 → b % 4096 = 0 → a < b → b ≤ 274877906944 → w.heap.size ≤ W.heap.size → MS T W sb n L' M st mo ba en → Calls Tryz.prog 68 #[.pointer (some ⟨sb, 1, none⟩), .int .u64 (a : Int), .int .u64 (b : Int)] W fun e w' => e = .returned (.tuple #[]) ∧ ClearPost T W sb n L' M st mo ba en a b w') :
    Calls Tryz.prog 27 #[addr0 sb, .int .u64 (a : Int), .int .u64 size] w fun e w' => ∃ r, e = .returned (.int .i64 r) ∧ UnmapAny T w sb n L M st mo ba en a b r w' := by
  have hb2 : b < 2 ^ 64 := by have := wrap_in (a + upW size); omega
  obtain ⟨X, hX⟩ := h.list
  have cl := lunmap_any hX h.few a b ha hb2
  have cu := fun W => mup_any size W
  have CU := Lib.hid cu; clear cu
  have CL := Lib.hid cl; clear cl
  have HX := Lib.hid hX; clear hX
  have H := Lib.hid h; clear h
  have HT := Lib.hid hT; clear hT
  have HB := Lib.hid hb; clear hb
  have HCL := Lib.hid hcl; clear hcl
  generalize upW size = us at *
  have hx0 : (0 : Int) ≤ (a : Int) := by omega
  unfold addr0 at *
  go_enter Tryz.func27, Tryz.ntmps27
  go_wp2_with fail
  refine (CU.out _).mono ?_
  rintro e w' ⟨rfl, rfl⟩
  go_wp2_with fail
  rw [← HB.out]
  refine CL.out.mono ?_
  rintro e w1 ⟨r, rfl, hr⟩
  clear CL CU
  rcases hr with ⟨rfl, s1, hc, hl, hf⟩ | ⟨hr, hno, k⟩
  · have h1 := H.out.laid HX.out hl hf (H.out.rs.cut (by omega) s1) hc HT.out
    have f1 : Fr T w w1 := hf.only_of H.out.own
    have H1 := Lib.hid h1
    have F1 := Lib.hid f1
    have S1 := Lib.hid s1
    have HC := Lib.hid hc
    clear h1 f1 s1 hc hl hf
    go_wp2_with fail
    refine (HCL.out w1 _ (by have := S1.out.1; omega) (by have := S1.out.2.1; omega) (by have := S1.out.2.2.1; omega) (by have := S1.out.2.2.2; omega) F1.out.size H1.out).mono ?_
    rintro e w2 ⟨rfl, st', m2, r2, f2⟩
    have M2 := Lib.hid m2; clear m2
    have R2 := Lib.hid r2; clear r2
    have F2 := Lib.hid f2; clear f2
    go_wp2_with fail
    go_ret
    exact ⟨0, rfl, .inl ⟨rfl, S1.out, HC.out, st', M2.out, R2.out, F1.out.trans F2.out⟩⟩
  · have t5 : (r != 0) = true := by simp [hr]
    have HR := Lib.hid hr; clear hr
    have HNO := Lib.hid hno; clear hno
    have K := Lib.hid k; clear k
    go_wp2_with fail
    go_ret
    exact ⟨r, rfl, .inr ⟨HR.out, HNO.out, K.out⟩⟩
/-- What Check answers. -/
def CheckIs (L : List Rg) (a : Nat) (n p r : Int) : Prop := (r = 22 ∧ (n < 0 ∨ 4194304 < n)) ∨ (0 ≤ n ∧ n ≤ 4194304 ∧ ((r = 0 ∧ ∀ y, (a : Int) ≤ y → y < a + n → Can L p y) ∨ (r = 14 ∧ ∃ y, (a : Int) ≤ y ∧ y < a + n ∧ ¬ Can L p y)))
set_option maxHeartbeats 1000000 in
theorem mcheck_any {T : Nat → Prop} {w : World} {sb n0 : Nat} {L : List Rg} {M st : Nat → Int} {mo ba en : Int} (h : MS T w sb n0 L M st mo ba en) (a : Nat) (n p : Int) (ha : a < 2 ^ 64) :
    Calls Tryz.prog 25 #[addr0 sb, .int .u64 (a : Int), .int .i64 n, .int .i64 p] w fun e w' => ∃ r, e = .returned (.int .i64 r) ∧ CheckIs L a n p r ∧ Bl w w' := by
  unfold addr0
  by_cases h1 : n < 0
  · clear h
    go_enter Tryz.func25, Tryz.ntmps25
    go_wp2_with fail
    go_ret
    exact ⟨22, rfl, .inl ⟨rfl, .inl h1⟩, Bl.refl _⟩
  · have h1' : 0 ≤ n := by omega
    by_cases h2 : 4194304 < n
    · clear h h1
      go_enter Tryz.func25, Tryz.ntmps25
      go_wp2_with fail
      go_ret
      exact ⟨22, rfl, .inl ⟨rfl, .inr h2⟩, Bl.refl _⟩
    · obtain ⟨m, rfl⟩ := Int.eq_ofNat_of_zero_le h1'
      have cl := lack_any h a m p (by omega) (by omega) (by omega)
      have CL := Lib.hid cl; clear cl h h1
      have h2' : (m : Int) ≤ 4194304 := by omega
      unfold addr0 at CL
      go_enter Tryz.func25, Tryz.ntmps25
      go_wp2_with fail
      refine CL.out.mono ?_
      rintro e w1 ⟨x, ok, rfl, hh, k⟩
      have K := Lib.hid k; clear k CL
      rcases hh with ⟨rfl, e1, e2, e3, e4⟩ | ⟨rfl, e1, e2⟩
      · have E3 := Lib.hid e3; clear e3 e4
        go_wp2_with fail
        go_ret
        exact ⟨14, rfl, .inr ⟨h1', h2', .inr ⟨rfl, x, e1, e2, E3.out⟩⟩, K.out⟩
      · have E2 := Lib.hid e2; clear e2 e1
        go_wp2_with fail
        go_ret
        exact ⟨0, rfl, .inr ⟨h1', h2', .inl ⟨rfl, E2.out⟩⟩, K.out⟩
set_option maxHeartbeats 1000000 in
theorem mout_any {T : Nat → Prop} {w : World} {sb n0 : Nat} {L : List Rg} {M st : Nat → Int} {mo ba en : Int} (h : MS T w sb n0 L M st mo ba en) (a : Nat) (A : Option Addr) (len cap : Nat) (xs : List Int) (hr : Rd w A xs) (hl : xs.length = len) (hlc : len ≤ cap) (hb : ∀ k, 0 ≤ xs.getD k 0 ∧ xs.getD k 0 ≤ 255)
    (hA : 0 < len → ∀ ad, A = some ad → ¬ T ad.block) (ha : a < 2 ^ 64) (hlen : len ≤ 100000) (hn : n0 < 80000000) (hT : ∀ b, w.heap.size ≤ b → T b) :
    Calls Tryz.prog 24 #[addr0 sb, .int .u64 (a : Int), .slice A len cap] w fun e w' => ∃ r, e = .returned (.int .i64 r) ∧
      ((r = 0 ∧ (∀ y, (a : Int) ≤ y → y < a + len → Can L 2 y) ∧ ∃ st', MS T w' sb (n0 + 3 * pagesOf a len) L (lay M a xs) st' mo ba en ∧ Rise st st' (fun p => ∃ x, a ≤ x ∧ x < a + len ∧ p = x / 4096) ∧ Fr T w w') ∨ (r ≠ 0 ∧ (∃ y, (a : Int) ≤ y ∧ y < a + len ∧ ¬ Can L 2 y) ∧ Bl w w')) := by
  have cc := mcheck_any h a (len : Int) 2 ha
  have CC := Lib.hid cc; clear cc
  have H := Lib.hid h; clear h
  have HR := Lib.hid hr; clear hr
  have HL := Lib.hid hl; clear hl
  have HBB := Lib.hid hb; clear hb
  have HA := Lib.hid hA; clear hA
  have HT := Lib.hid hT; clear hT
  unfold addr0 at *
  go_enter Tryz.func24, Tryz.ntmps24
  go_wp2_with fail
  refine CC.out.mono ?_
  rintro e w1 ⟨r, rfl, hh, k⟩
  have K := Lib.hid k; clear k CC
  rcases hh with ⟨_, hx⟩ | ⟨_, _, ⟨rfl, hx⟩ | ⟨rfl, hx⟩⟩
  · omega
  · by_cases h0 : len = 0
    · subst h0
      have hxs : xs = [] := List.eq_nil_of_length_eq_zero HL.out
      subst hxs
      obtain ⟨rg, f, k0, s1, s2, s3⟩ := (H.out.bl K.out).ex
      have cw := write_any s1 a A 0 cap [] Rd.nil_ rfl (by omega) (fun h0 => absurd h0 (by omega)) ha (by omega) (by omega) (off_new s2 (fun b hb => HT.out b (Nat.le_trans K.out.size hb)))
      rw [List.take_nil] at cw
      have CW := Lib.hid cw; clear cw
      have HX := Lib.hid hx; clear hx
      go_wp2_with fail
      refine CW.out.mono ?_
      rintro e w2 ⟨rfl, f', k', st', m2, f2, _, r2⟩
      have m3 := (H.out.bl K.out).stored s2 s3 m2 f2 (lay_bd H.out.by_ (cs := []) (fun k => by simp) a)
      have M3 := Lib.hid m3
      have R2 := Lib.hid r2
      have F2 := Lib.hid ((Fr.of_bl K.out).trans f2.off_of)
      clear m3 r2 f2 m2 CW s1 s2 s3
      go_wp2_with fail
      go_ret
      exact ⟨0, rfl, .inl ⟨rfl, HX.out, st', M3.out, R2.out.mono (fun p hp => by obtain ⟨x, x1, x2, _⟩ := hp; omega), F2.out⟩⟩
    · have htop := can_below H.out.so (n := len) hx (by omega)
      have HX := Lib.hid hx; clear hx
      have HTOP := Lib.hid htop; clear htop
      go_wp2_with fail
      refine (mwrite_any (H.out.bl K.out) a A len cap xs (HR.out.below K.out) HL.out hlc HBB.out HA.out HTOP.out (by omega) (by omega) (fun b hb => HT.out b (Nat.le_trans K.out.size hb))).mono ?_
      rintro e w2 ⟨rfl, st', m2, r2, f2⟩
      have M2 := Lib.hid m2
      have R2 := Lib.hid r2
      have F2 := Lib.hid ((Fr.of_bl K.out).trans f2)
      clear m2 r2 f2
      go_wp2_with fail
      go_ret
      exact ⟨0, rfl, .inl ⟨rfl, HX.out, st', M2.out, R2.out, F2.out⟩⟩
  · have HX := Lib.hid hx; clear hx
    go_wp2_with fail
    go_ret
    exact ⟨14, rfl, .inr ⟨by omega, HX.out, K.out⟩⟩
end Go.Proofs.YtepffglljmekiaaGreat
