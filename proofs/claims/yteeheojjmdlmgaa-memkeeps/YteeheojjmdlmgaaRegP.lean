/-
  Unmap and Protect that would make too many regions.
-/
import Derived.Test.YteeheojjmdlmgaaRegI
set_option linter.unusedVariables false
set_option linter.unusedSimpArgs false
namespace Go.Proofs.Yteeheojjmdlmgaa
open Go.RowKit
set_option maxRecDepth 100000
set_option maxHeartbeats 1000000 in
theorem unmap_many {X : Ctx} {w : World} {b : Nat} {L : List Rg} (h : ListAt X w b L) (s e : Int) (h0 : 0 ≤ s) (hs : Span s e) (hl : L.length ≤ 256) (hc : 256 < (layL L s e []).length) :
    Calls Try.prog 73 #[addr0 b, .int .u64 s, .int .u64 e] w (NoPost w 12) := by
  have c1 := fun W => isSpan_yes s e W h0 hs
  have c3 := lay_many h s e (M := []) (RowG.nil (base := 0)) hl (by simp) hc
  have C1 := Lib.hid c1; clear c1
  have C3 := Lib.hid c3; clear c3 h hs hl hc
  unfold addr0 at *
  go_enter Try.func73, Try.ntmps73
  go_wp2_with fail
  refine (C1.out _).mono ?_
  rintro e w' ⟨rfl, rfl⟩
  go_wp2_with fail
  refine C3.out.mono ?_
  rintro e w' ⟨rfl, h1⟩
  have H1 := Lib.hid h1; clear h1
  go_wp2_with fail
  go_ret
  exact ⟨rfl, H1.out⟩
set_option maxHeartbeats 1000000 in
theorem protect_many {X : Ctx} {w : World} {b : Nat} {L : List Rg} (h : ListAt X w b L) (hso : So 0 274877906944 L) (s t p : Int) (h0 : 0 ≤ s) (hs : Span s t) (hp0 : 0 ≤ p) (hp1 : p ≤ 7) (hl : L.length ≤ 256) (hm : Mapped L s t) (hc : 256 < (layL L s t [⟨s, t, p⟩]).length) :
    Calls Try.prog 28 #[addr0 b, .int .u64 s, .int .u64 t, .int .i64 p] w (NoPost w 12) := by
  have c1 := fun W => isSpan_yes s t W h0 hs
  have c2 := fun W => isProt_yes p W hp0 hp1
  have cf := fun W (k : Bl w W) => first_any (h.bl k) hso s t 0 (by omega)
  have C1 := Lib.hid c1; clear c1
  have C2 := Lib.hid c2; clear c2
  have CF := Lib.hid cf; clear cf
  have HH := Lib.hid h; clear h
  have HSO := Lib.hid hso; clear hso hs
  have HL := Lib.hid hl; clear hl
  have HM := Lib.hid hm; clear hm
  have HC := Lib.hid hc; clear hc
  unfold addr0 at *
  go_enter Try.func28, Try.ntmps28
  go_wp2_with fail
  refine (C1.out _).mono ?_
  rintro e w' ⟨rfl, rfl⟩
  go_wp2_with fail
  refine (C2.out _).mono ?_
  rintro e w' ⟨rfl, rfl⟩
  go_wp2_with fail
  refine (CF.out _ (Bl.refl _)).mono ?_
  rintro e w1 ⟨x, ok, rfl, hok, k1⟩
  have K1 := Lib.hid k1; clear k1
  rcases hok with ⟨rfl, a1, a2, a3, a4⟩ | ⟨rfl, rfl, a1⟩
  · exact absurd (can_zero.2 (HM.out x a1 a2)) a3
  clear a1
  go_wp2_with fail
  refine (lay_many ((HH.out.bl K1.out).bl (Bl.new w1 (.cells #[.int .u64 s, .int .u64 t, .int .i64 p] 67))) s t (lit_row w1 ⟨s, t, p⟩) HL.out (by simp) HC.out).mono ?_
  rintro e w' ⟨rfl, h1⟩
  have H1 := Lib.hid h1; clear h1
  go_wp2_with fail
  go_ret
  exact ⟨rfl, (K1.out.alloc _).trans H1.out⟩
end Go.Proofs.Yteeheojjmdlmgaa
