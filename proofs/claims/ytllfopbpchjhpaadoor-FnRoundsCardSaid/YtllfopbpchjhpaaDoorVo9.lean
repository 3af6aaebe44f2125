/- The program's ValidVoices by its contract; the law on it. -/
import Derived.Test.YtllfopbpchjhpaaDoorVo8
namespace Go.Proofs.YtllfopbpchjhpaaDoor
open Go.ChangeShapes Go.WideShapes Go.ChangeAt Go.RowKit Go.Deep
set_option linter.unusedSimpArgs false
set_option linter.unusedVariables false
theorem trOk_iff {n k : Nat} {t : List Int} : trOk n k t ↔ t.length ≤ 4 ∧ ¬ (k : Int) ∈ t ∧ allDiff n t := by
  constructor
  · rintro ⟨h1, h2⟩
    refine ⟨h1, fun hm => ?_, fun m hm => ?_⟩
    · obtain ⟨j, hj, e⟩ := List.mem_iff_getElem.1 hm
      have := (h2 j hj).2.2.1
      simp [List.getD, hj, e] at this
    · obtain ⟨a, b, c, d⟩ := h2 m hm
      exact ⟨a, by omega, d⟩
  · rintro ⟨h1, h2, h3⟩
    refine ⟨h1, fun m hm => ?_⟩
    obtain ⟨a, b, c⟩ := h3 m hm
    refine ⟨a, by omega, fun e => h2 ?_, c⟩
    rw [← e]
    simp [List.getD, hm]
end Go.Proofs.YtllfopbpchjhpaaDoor
