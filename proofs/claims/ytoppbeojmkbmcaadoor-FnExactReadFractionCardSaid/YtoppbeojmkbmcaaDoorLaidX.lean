/- What the list of the law on ReadFraction gives a walk, and a world that meets it. -/
import Derived.Test.YtoppbeojmkbmcaaDoorLaidR
import Derived.Test.YtoppbeojmkbmcaaDoorLaid
import Derived.Test.YtoppbeojmkbmcaaDoorFIRead
namespace Go.Proofs.YtoppbeojmkbmcaaDoor
open Go.ChangeShapes Go.WideShapes Go.ChangeAt Go.RowKit
theorem fread_of_laid {W : World} (h : laidMetH Tryd.prog Rows.fnExactReadFractionRow.laid W) (hSh : W.ShapedOpen Tryd.prog) : L4 W := by
  have h' : laidMet Tryd.prog [("math/bits.deBruijn32tab", Rows.laid_math_bits_deBruijn32tab), ("math/bits.deBruijn64tab", Rows.laid_math_bits_deBruijn64tab), ("internal/strconv.uint64pow10", Rows.laid_internal_strconv_uint64pow10), ("strconv.ErrRange", Rows.laid_strconv_ErrRange), ("strconv.ErrSyntax", Rows.laid_strconv_ErrSyntax)] W ∧ handlesMet Tryd.prog [("errors.errorType", Rows.laid_errors_errorType)] W := h
  exact ⟨errT_of h'.2 (List.mem_singleton.2 rfl), synT_of h'.1.tail.tail.tail, powT_of h'.1.tail.tail,
    Go.Proofs.cell_of_shapedOpen_int (zero := #[.int .i64 0]) (t := 3) hSh (of_decide_eq_true (by kernel_rfl)) (by kernel_rfl) rfl (by kernel_rfl) (by kernel_rfl) Tryd.underlying3⟩
noncomputable def fread_world (os : Os) : World :=
  { read_world os with heap := (read_world os).heap.modify 0 fun
      | .cells _ t frozen => .cells #[.iface 121 (.agg #[.pointer (some ⟨7, 55, none⟩)])] t frozen
      | o => o }
theorem fread_met (os : Os) (args : Array Value) : laidMetH Tryd.prog Rows.fnExactReadFractionRow.laid ((fread_world os).forCall (fun _ _ => 0) ⟨#[], args, []⟩).memory :=
  laidMetH_of_parts (laidMet_of_run' 8 (by kernel_rfl) (by kernel_rfl)) (by kernel_rfl)
end Go.Proofs.YtoppbeojmkbmcaaDoor
