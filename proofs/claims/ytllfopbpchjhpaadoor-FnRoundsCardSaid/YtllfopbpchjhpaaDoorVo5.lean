/- Lists of numbers asked for a number; lists compared. -/
import Derived.Test.YtllfopbpchjhpaaDoorVo4
import Derived.StillTailTactics
namespace Go.Proofs.YtllfopbpchjhpaaDoor
open Go.ChangeShapes Go.WideShapes Go.ChangeAt Go.RowKit Go.Deep
set_option linter.unusedSimpArgs false
set_option linter.unusedVariables false
theorem RowV.cons {w : World} {v : Value} {l : List Int} (h : RowV w v l) (hl : l ≠ []) : ∃ x cap, v = .slice (some x) l.length cap ∧ x.block < w.heap.size ∧ ∀ i, i < l.length → w.cell? (x.add i) = some (.int .i64 (l.getD i 0)) := by
  rcases h with ⟨_, h⟩ | h
  · exact absurd h hl
  · obtain ⟨x, cap, e, hx, hc⟩ := h
    exact ⟨x, cap, e, hx (List.length_pos_iff.2 hl), hc⟩
end Go.Proofs.YtllfopbpchjhpaaDoor
