/- What the list of the law on FractionText gives a walk, and a world that meets it. -/
import Derived.Test.YtoppbeojmkbmcaaDoorLaidT
import Derived.Test.YtoppbeojmkbmcaaDoorLaid
import Derived.Test.YtoppbeojmkbmcaaDoorFText
namespace Go.Proofs.YtoppbeojmkbmcaaDoor
open Go.ChangeShapes Go.WideShapes Go.ChangeAt Go.RowKit
theorem text_of_laid {W : World} (h : laidMetH Tryd.prog Rows.fnExactFractionTextRow.laid W) : ErrT W ∧ PowT W := by
  have h' : laidMet Tryd.prog [("math/bits.deBruijn32tab", Rows.laid_math_bits_deBruijn32tab), ("math/bits.deBruijn64tab", Rows.laid_math_bits_deBruijn64tab), ("internal/strconv.uint64pow10", Rows.laid_internal_strconv_uint64pow10)] W ∧ handlesMet Tryd.prog [("errors.errorType", Rows.laid_errors_errorType)] W := h
  exact ⟨errT_of h'.2 (List.mem_singleton.2 rfl), powT_of (h'.1.tail.tail)⟩
noncomputable def text_world (os : Os) : World :=
  { dec_world os with heap := (dec_world os).heap.modify 0 fun
      | .cells _ t frozen => .cells #[.iface 121 (.agg #[.pointer (some ⟨7, 55, none⟩)])] t frozen
      | o => o }
theorem text_met (os : Os) (args : Array Value) : laidMetH Tryd.prog Rows.fnExactFractionTextRow.laid ((text_world os).forCall (fun _ _ => 0) ⟨#[], args, []⟩).memory :=
  laidMetH_of_parts (laidMet_of_run' 8 (by kernel_rfl) (by kernel_rfl)) (by kernel_rfl)
end Go.Proofs.YtoppbeojmkbmcaaDoor
