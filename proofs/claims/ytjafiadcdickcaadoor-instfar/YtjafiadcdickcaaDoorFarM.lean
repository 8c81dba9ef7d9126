/-
  A remainder that is nought, as the text reckons it.
-/
import Derived.Test.YtjafiadcdickcaaDoorInstQ
set_option linter.unusedVariables false
namespace Go.Proofs.YtjafiadcdickcaaDoor
theorem tmod_b (n k : Int) (hk : k ≠ 0) : (n.tmod k == 0) = decide (n % k = 0) := by
  by_cases h : n % k = 0
  · rw [decide_eq_true h, beq_iff_eq]; exact Int.tmod_eq_zero_of_dvd (Int.dvd_of_emod_eq_zero h)
  · rw [decide_eq_false h, beq_eq_false_iff_ne]; exact fun h2 => h (Int.emod_eq_zero_of_dvd (Int.dvd_of_tmod_eq_zero h2))
end Go.Proofs.YtjafiadcdickcaaDoor
