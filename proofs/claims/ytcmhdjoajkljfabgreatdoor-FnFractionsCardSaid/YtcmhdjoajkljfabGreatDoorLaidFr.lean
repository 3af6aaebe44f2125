/- What the list of the law on fractions gives a walk, and a world that meets it. -/
import Derived.Test.YtcmhdjoajkljfabGreatDoorLaid
import Derived.Test.YtcmhdjoajkljfabGreatDoorFIRead
import Derived.Stop.LaidErr
import Derived.Deep.DeepWitnessRowRef
namespace Go.Proofs.YtcmhdjoajkljfabGreatDoor
open Go.ChangeShapes Go.WideShapes Go.ChangeAt Go.RowKit
theorem powTy : (Tryz.prog.globals[4]?).map (·.type) = some 126 := by kernel_rfl
theorem powCells : Tryz.prog.cellsOf 126 = 20 := by kernel_rfl
theorem u64Cells : Tryz.prog.cellsOf 54 = 1 := by kernel_rfl
theorem powData : Rows.laid_internal_strconv_uint64pow10 = Lib.tabData (H := Unit) .u64 Lib.pow10Tab := by kernel_rfl
theorem powT_of {r : List (String × DataW Unit)} {W : World} (h : laidMet Tryz.prog (("internal/strconv.uint64pow10", Rows.laid_internal_strconv_uint64pow10) :: r) W) : PowT W := by
  rw [powData] at h
  exact Lib.tabIs_of_head powG powTy Tryz.underlying126 Tryz.underlying54 u64Cells powCells h
def aggCells : DataW Unit → Array Value
  | .agg l => (l.map fun x => match x with
    | .lit (.int k z) => Value.int k z
    | _ => undef).toArray
  | _ => #[]
def layTab (x : Nat × DataW Unit) (h : Array Obj) : Array Obj := h.modify x.1 fun
  | .cells _ t frozen => .cells (aggCells x.2) t frozen
  | o => o
theorem synTy : (Tryz.prog.globals[2]?).map (·.type) = some 41 := by kernel_rfl
theorem ranTy : (Tryz.prog.globals[3]?).map (·.type) = some 41 := by kernel_rfl
theorem esCells : Tryz.prog.cellsOf 133 = 1 := by kernel_rfl
theorem stCells : Tryz.prog.cellsOf 9 = 1 := by kernel_rfl
theorem esStar : "*" ++ "errors.errorString" = "*errors.errorString" := by decide
theorem esRow (u : TypeId) (h : Tryz.prog.typeName? 3 u = some "*errors.errorString") : u = 131 :=
  typeName_ptr_named (nm := "errors.errorString") (by rw [esStar]; kernel_rfl) (by kernel_rfl) (by decide) u (by rw [esStar]; exact h)
theorem synT_of {r : List (String × DataW Unit)} {W : World} (h : laidMet Tryz.prog (("strconv.ErrRange", Rows.laid_strconv_ErrRange) :: ("strconv.ErrSyntax", Rows.laid_strconv_ErrSyntax) :: r) W) : SynT W := by
  obtain ⟨a0, s0, h0, -, -, -⟩ := laid_sentinel (nm := "*errors.errorString") h ranG ranTy Tryz.underlying41 esRow Tryz.underlying131 Tryz.underlying133 rfl rfl Tryz.underlying9 esCells stCells
  obtain ⟨a1, s1, h1, -, -, -⟩ := laid_sentinel (nm := "*errors.errorString") h.tail synG synTy Tryz.underlying41 esRow Tryz.underlying131 Tryz.underlying133 rfl rfl Tryz.underlying9 esCells stCells
  exact ⟨⟨_, _, h1⟩, ⟨_, _, h0⟩⟩
abbrev syntaxS : ByteArray := { data := #[105, 110, 118, 97, 108, 105, 100, 32, 115, 121, 110, 116, 97, 120] }
abbrev rangeS : ByteArray := { data := #[118, 97, 108, 117, 101, 32, 111, 117, 116, 32, 111, 102, 32, 114, 97, 110, 103, 101] }
noncomputable def low : Nat := (World.holding Tryz.prog default ⟨#[], #[], []⟩).heap.size
def layPtr (g b : Nat) (h : Array Obj) : Array Obj := h.modify g fun
  | .cells _ t frozen => .cells #[.iface 131 (.pointer (some ⟨b, 0, none⟩))] t frozen
  | o => o
noncomputable def errs_world (os : Os) (l : List (Nat × DataW Unit)) : World :=
  let w0 := World.holding Tryz.prog os ⟨#[.cells #[.string rangeS] 133, .cells #[.string syntaxS] 133], #[], []⟩
  { w0 with heap := layPtr 3 low (layPtr 2 (low + 1) (l.foldr layTab w0.heap)) }
noncomputable def read_world (os : Os) : World := errs_world os [(5, Rows.laid_math_bits_deBruijn32tab), (6, Rows.laid_math_bits_deBruijn64tab), (4, Rows.laid_internal_strconv_uint64pow10)]
theorem fread_of_laid {W : World} (h : laidMetH Tryz.prog Rows.fnFractionsRow.laid W) (hSh : W.ShapedOpen Tryz.prog) : L4 W := by
  have h' : laidMet Tryz.prog [("math/bits.deBruijn32tab", Rows.laid_math_bits_deBruijn32tab), ("math/bits.deBruijn64tab", Rows.laid_math_bits_deBruijn64tab), ("internal/strconv.uint64pow10", Rows.laid_internal_strconv_uint64pow10), ("strconv.ErrRange", Rows.laid_strconv_ErrRange), ("strconv.ErrSyntax", Rows.laid_strconv_ErrSyntax)] W ∧ handlesMet Tryz.prog [("errors.errorType", Rows.laid_errors_errorType)] W := h
  exact ⟨errT_of h'.2 (List.mem_singleton.2 rfl), synT_of h'.1.tail.tail.tail, powT_of h'.1.tail.tail,
    Go.Proofs.cell_of_shapedOpen_int (zero := #[.int .i64 0]) (t := 3) hSh (of_decide_eq_true (by kernel_rfl)) (by kernel_rfl) rfl (by kernel_rfl) (by kernel_rfl) Tryz.underlying3⟩
noncomputable def fread_world (os : Os) : World :=
  { read_world os with heap := (read_world os).heap.modify 0 fun
      | .cells _ t frozen => .cells #[.iface 90 (.agg #[.pointer (some ⟨7, 41, none⟩)])] t frozen
      | o => o }
theorem fread_met (os : Os) (args : Array Value) : laidMetH Tryz.prog Rows.fnFractionsRow.laid ((fread_world os).forCall (fun _ _ => 0) ⟨#[], args, []⟩).memory :=
  laidMetH_of_parts (laidMet_of_run' 8 (by kernel_rfl) (by kernel_rfl)) (by kernel_rfl)
end Go.Proofs.YtcmhdjoajkljfabGreatDoor
