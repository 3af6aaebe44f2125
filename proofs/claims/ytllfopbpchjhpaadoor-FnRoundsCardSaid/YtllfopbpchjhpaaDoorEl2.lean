/- Elections: copied, their size, compared, marked. -/
import Derived.Test.YtllfopbpchjhpaaDoorEl1
import Derived.Deep.RegionHeld3
namespace Go.Proofs.YtllfopbpchjhpaaDoor
open Go.ChangeShapes Go.WideShapes Go.ChangeAt Go.RowKit Go.Deep
set_option linter.unusedSimpArgs false
set_option linter.unusedVariables false
abbrev El := Int × List Int × List (List Int)
theorem Kept.ofBelow {w w' : World} {S : Nat → Prop} (h : Below w.heap.size w w') : Kept w w' S := ⟨h.os, h.tape, h.output, h.size, fun b hb _ => h.block b hb⟩
/-- The value v is the election X. -/
def ListE (w : World) (v : Value) (X : El) : Prop := ∃ c a, v = .agg #[.int .i64 X.1, c, a] ∧ RowV w c X.2.1 ∧ ListJ w a X.2.2
theorem ListE.below {w w' : World} {v : Value} {X : El} (h : ListE w v X) (hb : Below w.heap.size w w') : ListE w' v X := by
  obtain ⟨c, a, e, h1, h2⟩ := h
  exact ⟨c, a, e, h1.below hb, h2.below hb⟩
def RoomE (X : El) : Prop := X.2.1.length ≤ 9223372036854775807 ∧ RoomJ X.2.2 ∧ (Lit.int .i64 X.1).wf = true ∧ ∀ n ∈ X.2.1, (Lit.int .i64 n).wf = true
def FitsE (X : El) : Prop := X.2.1.length ≤ 1048576 ∧ FitsJ X.2.2 ∧ (Lit.int .i64 X.1).wf = true ∧ ∀ n ∈ X.2.1, (Lit.int .i64 n).wf = true
theorem Js.other {w : World} {base b x o : Nat} {L : List (List Int)} (h : Js w base b L) (hx : x ≠ b) (hy : x ≤ base) (v : Value) : Js (w.setCell ⟨x, o, none⟩ v) base b L := by
  obtain ⟨c, h⟩ := h
  exact ⟨c, World.rowIs.setOther h.row (by show b ≠ x; omega) _, fun j hj => ⟨(h.own j hj).1, World.rowIs.setOther (h.own j hj).2 (by have := (h.own j hj).1; show c j ≠ x; omega) _⟩, h.inj⟩
end Go.Proofs.YtllfopbpchjhpaaDoor
