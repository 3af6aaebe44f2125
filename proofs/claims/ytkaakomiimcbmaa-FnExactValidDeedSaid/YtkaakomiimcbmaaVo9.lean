/- The program's ValidVoices by its contract; the law on it. -/
import Derived.Test.YtkaakomiimcbmaaCx1
namespace Go.Proofs.Ytkaakomiimcbmaa
open Go.ChangeShapes Go.WideShapes Go.ChangeAt Go.RowKit Go.Deep
set_option linter.unusedSimpArgs false
set_option linter.unusedVariables false
theorem trOk_iff {n k : Nat} {t : List Int} : trOk n k t ↔ t.length ≤ 4 ∧ ¬ (k : Int) ∈ t ∧ allDiff n t := by
  constructor
  · rintro ⟨h1, h2⟩
    refine ⟨h1, fun hm => ?_, fun m hm => ?_⟩
    · obtain ⟨j, hj, e⟩ := List.mem_iff_getElem.1 hm
      have := (h2 j hj).2.2.1
      simp [List.getD, hj, e] at this
    · obtain ⟨a, b, c, d⟩ := h2 m hm
      exact ⟨a, by omega, d⟩
  · rintro ⟨h1, h2, h3⟩
    refine ⟨h1, fun m hm => ?_⟩
    obtain ⟨a, b, c⟩ := h3 m hm
    refine ⟨a, by omega, fun e => h2 ?_, c⟩
    rw [← e]
    simp [List.getD, hm]
theorem RowV.at0 {w : World} {x : Addr} {cap : Nat} {l : List Int} {n : Nat} (h : RowV w (.slice (some x) n cap) l) : (0 < l.length → x.block < w.heap.size) ∧ ∀ j, j < l.length → w.cell? (x.add j) = some (.int .i64 (l.getD j 0)) := by
  rcases h with ⟨h, -⟩ | ⟨y, cp, e, h1, h2⟩
  · cases h
  · cases e; exact ⟨h1, h2⟩
theorem trB_iff {n k : Nat} {t : List Int} (hk : k < n) : trOk n k t ↔ trB n (k : Int) t = true := by
  rw [trOk_iff]
  unfold trB
  rw [Bool.and_eq_true, decide_eq_true_iff]
  have : allDiffB n ((k : Int) :: t) = true ↔ ¬ (k : Int) ∈ t ∧ allDiff n t := by
    constructor
    · intro h
      have : allDiff n ((k : Int) :: t) := by
        unfold allDiffB at h; simpa using h
      exact (allDiff_cons.1 this).2
    · rintro ⟨h1, h2⟩
      exact allDiffB_yes (allDiff_cons.2 ⟨⟨by omega, by omega⟩, h1, h2⟩)
  rw [this]
end Go.Proofs.Ytkaakomiimcbmaa
