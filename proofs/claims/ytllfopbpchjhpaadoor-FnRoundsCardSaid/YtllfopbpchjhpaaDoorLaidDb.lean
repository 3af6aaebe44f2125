/- What the listed table gives a walk, and a world that meets the list of the laws on sets of arguments. -/
import Derived.Test.YtllfopbpchjhpaaDoorCards
import Derived.Test.YtllfopbpchjhpaaDoorTie
import Derived.Test.YtllfopbpchjhpaaDoorGzc
import Derived.WalkKit
import Derived.ProofKit
import Derived.OpenShut
import Derived.LaidHandle
import Derived.Deep.DeepHandedRow
import Derived.Lib.LaidTab
import Derived.Stop.LaidErr
namespace Go.Proofs.YtllfopbpchjhpaaDoor
open Go.ChangeShapes Go.WideShapes Go.ChangeAt Go.RowKit
def dbTab : List Int := Lib.deBruijn32tab.map Int.ofNat
theorem dbG : Tryd.prog.globalNamed "math/bits.deBruijn32tab" = some 0 := by kernel_rfl
theorem dbTy : (Tryd.prog.globals[0]?).map (·.type) = some 62 := by kernel_rfl
theorem dbCells : Tryd.prog.cellsOf 62 = 32 := by kernel_rfl
theorem u8Cells : Tryd.prog.cellsOf 5 = 1 := by kernel_rfl
theorem dbData : Rows.laid_math_bits_deBruijn32tab = Lib.tabData (H := Unit) .u8 dbTab := by kernel_rfl
theorem dbT_of {r : List (String × DataW Unit)} {W : World} (h : laidMet Tryd.prog (("math/bits.deBruijn32tab", Rows.laid_math_bits_deBruijn32tab) :: r) W) : DBT W := by
  rw [dbData] at h
  have h' := Lib.tabIs_of_head dbG dbTy Tryd.underlying62 Tryd.underlying5 u8Cells dbCells h
  intro j hj
  have hc := Lib.TabIs.cell h' dbG j (by simpa [dbTab, Lib.deBruijn32tab] using hj)
  have e : dbTab.getD j 0 = (Lib.deBruijn32tab.getD j 0 : Int) := by
    have : ∀ j, j < 32 → dbTab.getD j 0 = (Lib.deBruijn32tab.getD j 0 : Int) := by decide
    exact this j hj
  rw [← e]
  exact hc
theorem db_of_laid {W : World} (h : laidMetH Tryd.prog [("math/bits.deBruijn32tab", Rows.laid_math_bits_deBruijn32tab)] W) : DBT W := by
  have h' : laidMet Tryd.prog [("math/bits.deBruijn32tab", Rows.laid_math_bits_deBruijn32tab)] W := h
  exact dbT_of h'
def aggCells8 : DataW Unit → Array Value
  | .agg l => (l.map fun x => match x with
    | .lit (.int k z) => Value.int k z
    | _ => undef).toArray
  | _ => #[]
def layTab8 (x : Nat × DataW Unit) (h : Array Obj) : Array Obj := h.modify x.1 fun
  | .cells _ t frozen => .cells (aggCells8 x.2) t frozen
  | o => o
noncomputable def db_world (os : Os) : World :=
  let w0 := World.holding Tryd.prog os ⟨#[], #[], []⟩
  { w0 with heap := [(0, Rows.laid_math_bits_deBruijn32tab)].foldr layTab8 w0.heap }
set_option maxRecDepth 100000 in
theorem db_met (os : Os) (args : Array Value) : laidMetH Tryd.prog [("math/bits.deBruijn32tab", Rows.laid_math_bits_deBruijn32tab)] ((db_world os).forCall (fun _ _ => 0) ⟨#[], args, []⟩).memory := by
  show laidMet _ _ _
  exact laidMet_of_run' 8 (by kernel_rfl) (by kernel_rfl)
end Go.Proofs.YtllfopbpchjhpaaDoor
