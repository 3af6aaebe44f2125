/- The kinds of values that a law copies, compares, marks: lists of voices; what calls answer. -/
import Derived.Test.YtlpidgdlbannbabDoorK1
namespace Go.Proofs.YtlpidgdlbannbabDoor
open Go.ChangeShapes Go.WideShapes Go.ChangeAt Go.RowKit Go.Deep
set_option linter.unusedSimpArgs false
set_option linter.unusedVariables false
/-- The copy of a list of voices. -/
def CpV (w : World) (lo hi : Nat) (v : Value) (L : List Vc) : Prop := v = .slice (some ⟨lo, 0, none⟩) L.length L.length ∧ Vs w lo lo L ∧ (lo < hi ∧ ∃ c, ShV w lo L.length c (fun j => (L.getD j (false, [])).2.length) ∧ ∀ j, j < L.length → lo ≤ c j ∧ c j < hi ∧ lo ≠ c j) ∧ Fits L
theorem CpV.below {w w' : World} {lo hi : Nat} {v : Value} {l : List Vc} (h : CpV w lo hi v l) (hb : Below w.heap.size w w') : CpV w' lo hi v l := by
  obtain ⟨h1, h2, ⟨h3, c, h4, h5⟩, h6⟩ := h
  exact ⟨h1, h2.below hb, ⟨h3, c, h4.below hb, h5⟩, h6⟩
theorem eqCpV {v v' : Value} {l : List Vc} {w : World} {lo hi lo' hi' : Nat} (h : CpV w lo hi v l) (h' : CpV w lo' hi' v' l) :
    Calls Tryd.prog 8 #[v, v'] w fun e w' => e = .returned (.bool true) ∧ Below w.heap.size w w' := by
  obtain ⟨rfl, h1, -, hf⟩ := h
  obtain ⟨rfl, h2, -, -⟩ := h'
  exact eqVS l _ _ _ _ _ _ w h1 h2 hf
theorem toCpV (v : Value) (l : List Vc) (w : World) (h : ListV w v l) (hf : Fits l) :
    Calls Tryd.prog 6 #[v] w fun e w' => ∃ u, e = .returned u ∧ CpV w' w.heap.size w'.heap.size u l ∧ Below w.heap.size w w' :=
  (toVS_any v l w h hf.1 hf.2).mono fun e w' ⟨he, ho, hb⟩ => ⟨_, he, ⟨rfl, ho, ⟨ho.lt, ho.shape⟩, hf⟩, hb⟩
/-- What a call answers: a bool. -/
def Pb (m : Bool) (w : World) (e : Ending) (w' : World) : Prop := e = .returned (.bool m) ∧ Below w.heap.size w w'
theorem Pb.out {m : Bool} {w w' : World} {e : Ending} (h : Pb m w e w') : e = .returned (.bool m) ∧ Below w.heap.size w w' := h
/-- A list of numbers to be read, and a bool. -/
def PIb (m : List Int × Bool) (w : World) (e : Ending) (w' : World) : Prop := ∃ v, e = .returned (.tuple #[v, .bool m.2]) ∧ RdI w' w.heap.size w'.heap.size v m.1 ∧ Below w.heap.size w w'
theorem PIb.out {l : List Int} {z : Bool} {w w' : World} {e : Ending} (h : PIb (l, z) w e w') : ∃ v, e = .returned (.tuple #[v, .bool z]) ∧ RdI w' w.heap.size w'.heap.size v l ∧ Below w.heap.size w w' := h
/-- A list of numbers in memory of the call's own, and a bool. -/
def QIb (m : List Int × Bool) (w : World) (e : Ending) (w' : World) : Prop := ∃ v, e = .returned (.tuple #[v, .bool m.2]) ∧ OwI w' w.heap.size w'.heap.size v m.1 ∧ Below w.heap.size w w'
theorem QIb.out {l : List Int} {z : Bool} {w w' : World} {e : Ending} (h : QIb (l, z) w e w') : ∃ v, e = .returned (.tuple #[v, .bool z]) ∧ OwI w' w.heap.size w'.heap.size v l ∧ Below w.heap.size w w' := h
end Go.Proofs.YtlpidgdlbannbabDoor
