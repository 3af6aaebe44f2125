/- Arguments that hold deeds, opened. -/
import Derived.Test.YtkaakomiimcbmaaDd2
import Derived.Test.YtkaakomiimcbmaaOpenD
namespace Go.Proofs.Ytkaakomiimcbmaa
open Go.ChangeShapes Go.WideShapes Go.ChangeAt Go.RowKit Go.Joins Go.Deep
set_option linter.unusedVariables false
set_option linter.unusedSimpArgs false
set_option maxRecDepth 100000
theorem cellsEsd : Try.prog.cellsOf 23 = 1 := by kernel_rfl
theorem cellsDd : Try.prog.cellsOf 25 = 9 := by kernel_rfl
def RoomDw (X : Dd) : Prop := RoomDd X ∧ (Lit.int .i64 X.k).wf = true
section
variable {H : Type} {enc : TypeId × Value → H} {w : World} {base : Nat} {spare : Nat → Bool} {held : Bool}
theorem deed_of {b0 : Nat} {v : Value} {d : DataW H} {p : List MemPlace}
    (hv : Value.okWide Try.prog w .any b0 25 v) (h : DataW.Trod enc Try.prog w base spare held 25 v d p) : ∃ X, ListDd w v X ∧ RoomDw X := by
  obtain ⟨cs, rfl, hsz⟩ := okWide_struct Try.underlying25 hv
  rw [cellsDd] at hsz
  obtain ⟨c0, c1, c2, c3, c4, c5, c6, c7, c8, rfl⟩ : ∃ c0 c1 c2 c3 c4 c5 c6 c7 c8, cs = #[c0, c1, c2, c3, c4, c5, c6, c7, c8] := by
    obtain ⟨l⟩ := cs
    match l, hsz with
    | [c0, c1, c2, c3, c4, c5, c6, c7, c8], _ => exact ⟨c0, c1, c2, c3, c4, c5, c6, c7, c8, rfl⟩
  obtain ⟨fuel, hf⟩ := h
  obtain ⟨ys, n', _, _, hlen, hyl, hfd⟩ := DataW.trod_struct Try.underlying25 hf
  have hy9 : ys.length = 9 := hyl
  have q0 := hfd 0 _ rfl
  have q1 := hfd 1 _ rfl
  have q2 := hfd 2 _ rfl
  have q3 := hfd 3 _ rfl
  have q4 := hfd 4 _ rfl
  have q5 := hfd 5 _ rfl
  have q6 := hfd 6 _ rfl
  have q7 := hfd 7 _ rfl
  have q8 := hfd 8 _ rfl
  simp [cellsI7, cellsS7, cellsEsd, cellsS, Value.cells] at q0 q1 q2 q3 q4 q5 q6 q7 q8
  have z0 : ys[0]? = some (ys[0]'(by omega)) := List.getElem?_eq_getElem _
  have z1 : ys[1]? = some (ys[1]'(by omega)) := List.getElem?_eq_getElem _
  have z2 : ys[2]? = some (ys[2]'(by omega)) := List.getElem?_eq_getElem _
  have z3 : ys[3]? = some (ys[3]'(by omega)) := List.getElem?_eq_getElem _
  have z4 : ys[4]? = some (ys[4]'(by omega)) := List.getElem?_eq_getElem _
  have z5 : ys[5]? = some (ys[5]'(by omega)) := List.getElem?_eq_getElem _
  have z6 : ys[6]? = some (ys[6]'(by omega)) := List.getElem?_eq_getElem _
  have z7 : ys[7]? = some (ys[7]'(by omega)) := List.getElem?_eq_getElem _
  have z8 : ys[8]? = some (ys[8]'(by omega)) := List.getElem?_eq_getElem _
  obtain ⟨a0, e0, _, w0⟩ := DataW.trod_int Try.underlying2 (q0.trans z0)
  obtain ⟨a1, e1, _, w1⟩ := DataW.trod_int Try.underlying2 (q1.trans z1)
  obtain ⟨a4, e4, _, w4⟩ := DataW.trod_int Try.underlying2 (q4.trans z4)
  obtain ⟨a6, e6, _, w6⟩ := DataW.trod_int Try.underlying2 (q6.trans z6)
  obtain ⟨a7, e7, _, w7⟩ := DataW.trod_int Try.underlying2 (q7.trans z7)
  obtain ⟨a8, e8, _, w8⟩ := DataW.trod_int Try.underlying2 (q8.trans z8)
  obtain ⟨a3, e3, _, l3⟩ := DataW.trod_string Try.underlying9 (q3.trans z3)
  obtain ⟨lt, h2, l2, -⟩ := row_of (q2.trans z2)
  obtain ⟨lp, h5, l5⟩ := edits_of (q5.trans z5)
  simp only [List.cons.injEq, and_true] at e0 e1 e3 e4 e6 e7 e8
  subst e0 e1 e3 e4 e6 e7 e8
  exact ⟨⟨a0, a1, lt, a3, a4, lp, a6, a7, a8⟩, ⟨c2, c5, rfl, h2, h5⟩, ⟨l2, l3, l5⟩, w0⟩
end
end Go.Proofs.Ytkaakomiimcbmaa
