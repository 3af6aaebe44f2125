/- IsPath on both sides by its contract; the law on it. -/
import Derived.Test.YtkaakomiimcbmaaVp2
namespace Go.Proofs.Ytkaakomiimcbmaa
open Go.ChangeShapes Go.WideShapes Go.ChangeAt Go.RowKit Go.Deep
set_option linter.unusedSimpArgs false
set_option linter.unusedVariables false
theorem toIO (v : Value) (l : List Int) (w : World) (h : RowV w v l) (hl : l.length ≤ 1048576) :
    Calls Try.prog 12 #[v] w fun e w' => e = .returned (.slice (some ⟨w.heap.size, 0, none⟩) l.length l.length) ∧ OwnI w' w.heap.size l ∧ Below w.heap.size w w' := toI v l w h hl
end Go.Proofs.Ytkaakomiimcbmaa
