/- What the list of the law on ReadDecimal gives a walk, and a world that meets it. -/
import Derived.Test.YtoppbeojmkbmcaaDoorLaidT
import Derived.Test.YtoppbeojmkbmcaaDoorSRead
import Derived.Deep.DeepWitnessRowRef
namespace Go.Proofs.YtoppbeojmkbmcaaDoor
open Go.ChangeShapes Go.WideShapes Go.ChangeAt Go.RowKit
theorem synTy : (Tryd.prog.globals[3]?).map (·.type) = some 55 := by kernel_rfl
theorem ranTy : (Tryd.prog.globals[4]?).map (·.type) = some 55 := by kernel_rfl
theorem esCells : Tryd.prog.cellsOf 147 = 1 := by kernel_rfl
theorem stCells : Tryd.prog.cellsOf 9 = 1 := by kernel_rfl
theorem esStar : "*" ++ "errors.errorString" = "*errors.errorString" := by decide
theorem esRow (u : TypeId) (h : Tryd.prog.typeName? 3 u = some "*errors.errorString") : u = 145 :=
  typeName_ptr_named (nm := "errors.errorString") (by rw [esStar]; kernel_rfl) (by kernel_rfl) (by decide) u (by rw [esStar]; exact h)
theorem synT_of {r : List (String × DataW Unit)} {W : World} (h : laidMet Tryd.prog (("strconv.ErrRange", Rows.laid_strconv_ErrRange) :: ("strconv.ErrSyntax", Rows.laid_strconv_ErrSyntax) :: r) W) : SynT W := by
  obtain ⟨a0, s0, h0, -, -, -⟩ := laid_sentinel (nm := "*errors.errorString") h ranG ranTy Tryd.underlying55 esRow Tryd.underlying145 Tryd.underlying147 rfl rfl Tryd.underlying9 esCells stCells
  obtain ⟨a1, s1, h1, -, -, -⟩ := laid_sentinel (nm := "*errors.errorString") h.tail synG synTy Tryd.underlying55 esRow Tryd.underlying145 Tryd.underlying147 rfl rfl Tryd.underlying9 esCells stCells
  exact ⟨⟨_, _, h1⟩, ⟨_, _, h0⟩⟩
theorem read_of_laid {W : World} (h : laidMetH Tryd.prog Rows.fnExactReadDecimalRow.laid W) : SynT W ∧ PowT W := by
  have h' : laidMet Tryd.prog Rows.fnExactReadDecimalRow.laid W := h
  exact ⟨synT_of h'.tail.tail.tail, powT_of h'.tail.tail⟩
abbrev syntaxS : ByteArray := { data := #[105, 110, 118, 97, 108, 105, 100, 32, 115, 121, 110, 116, 97, 120] }
abbrev rangeS : ByteArray := { data := #[118, 97, 108, 117, 101, 32, 111, 117, 116, 32, 111, 102, 32, 114, 97, 110, 103, 101] }
noncomputable def low : Nat := (World.holding Tryd.prog default ⟨#[], #[], []⟩).heap.size
def layPtr (g b : Nat) (h : Array Obj) : Array Obj := h.modify g fun
  | .cells _ t frozen => .cells #[.iface 145 (.pointer (some ⟨b, 0, none⟩))] t frozen
  | o => o
noncomputable def errs_world (os : Os) (l : List (Nat × DataW Unit)) : World :=
  let w0 := World.holding Tryd.prog os ⟨#[.cells #[.string rangeS] 147, .cells #[.string syntaxS] 147], #[], []⟩
  { w0 with heap := layPtr 4 low (layPtr 3 (low + 1) (l.foldr layTab w0.heap)) }
noncomputable def read_world (os : Os) : World := errs_world os [(5, Rows.laid_math_bits_deBruijn32tab), (6, Rows.laid_math_bits_deBruijn64tab), (1, Rows.laid_internal_strconv_uint64pow10)]
theorem read_met (os : Os) (args : Array Value) : laidMetH Tryd.prog Rows.fnExactReadDecimalRow.laid ((read_world os).forCall (fun _ _ => 0) ⟨#[], args, []⟩).memory := by
  show laidMet _ _ _
  exact laidMet_of_run' 8 (by kernel_rfl) (by kernel_rfl)
end Go.Proofs.YtoppbeojmkbmcaaDoor
