/- Arguments that hold frames, opened. -/
import Derived.Test.YtfkeadifmjbodaaDoorFm1
import Derived.Test.YtfkeadifmjbodaaDoorOpenE
import Derived.Deep.Strs
namespace Go.Proofs.YtfkeadifmjbodaaDoor
open Go.ChangeShapes Go.WideShapes Go.ChangeAt Go.RowKit Go.Joins Go.Deep
set_option linter.unusedVariables false
set_option linter.unusedSimpArgs false
set_option maxRecDepth 100000
theorem cellsFrm : Tryd.prog.cellsOf 24 = 2 := by kernel_rfl
section
variable {H : Type} {enc : TypeId × Value → H} {w : World} {base : Nat} {spare : Nat → Bool} {held : Bool}
theorem frame_of {b0 : Nat} {v : Value} {d : DataW H} {p : List MemPlace}
    (hv : Value.okWide Tryd.prog w .any b0 24 v) (h : DataW.Trod enc Tryd.prog w base spare held 24 v d p) : ∃ X, ListG w v X ∧ RoomG X := by
  obtain ⟨c0, c1, y0, y1, m, rfl, rfl, rfl, g0, g1⟩ := open_agg2 Tryd.underlying24 (by kernel_rfl) cellsFrm hv h
  obtain ⟨a, e0, _, wa⟩ := DataW.trod_int Tryd.underlying2 g0
  simp only [List.cons.injEq, and_true] at e0
  subst e0
  obtain ⟨A, h4, h5⟩ := rows_of g1
  exact ⟨(a, A), ⟨c1, rfl, h4⟩, h5, wa⟩
end
end Go.Proofs.YtfkeadifmjbodaaDoor
