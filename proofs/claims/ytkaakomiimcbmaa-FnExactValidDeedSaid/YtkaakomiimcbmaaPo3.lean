/- Rising lists: the specification's look at one and the program's. -/
import Derived.Test.YtkaakomiimcbmaaVo5
namespace Go.Proofs.Ytkaakomiimcbmaa
open Go.ChangeShapes Go.WideShapes Go.ChangeAt Go.RowKit Go.Deep
set_option linter.unusedSimpArgs false
set_option linter.unusedVariables false
/-- Element i of a list is within the bounds, and greater than the one before it. -/
def ris1 (l : List Int) (lo hi : Int) (i : Nat) : Prop := lo ≤ l.getD i 0 ∧ l.getD i 0 ≤ hi ∧ (0 < i → l.getD (i - 1) 0 < l.getD i 0)
def ris (l : List Int) (lo hi : Int) : Prop := ∀ i, i < l.length → ris1 l lo hi i
noncomputable def risB (l : List Int) (lo hi : Int) : Bool := @decide (ris l lo hi) (Classical.propDecidable _)
theorem risB_yes {l : List Int} {lo hi : Int} (h : ris l lo hi) : risB l lo hi = true := by simp [risB, h]
theorem risB_no {l : List Int} {lo hi : Int} (h : ¬ ris l lo hi) : risB l lo hi = false := by simp [risB, h]
theorem risB_iff {l : List Int} {lo hi : Int} : risB l lo hi = true ↔ ris l lo hi := by simp [risB]
/-- A world that differs in what was drawn alone. -/
def Drw (w w' : World) : Prop := ∃ m, w' = w.drewN m
theorem Drw.refl (w : World) : Drw w w := ⟨0, rfl⟩
theorem Drw.drewN {w w' : World} (h : Drw w w') (n : Nat) : Drw w (w'.drewN n) := by
  obtain ⟨m, rfl⟩ := h
  exact ⟨m + n, by simp⟩
theorem Drw.trans {a b c : World} (h : Drw a b) (h' : Drw b c) : Drw a c := by
  obtain ⟨m, rfl⟩ := h'
  exact h.drewN m
theorem Drw.below {w w' : World} (h : Drw w w') : Below w.heap.size w w' := by
  obtain ⟨m, rfl⟩ := h
  exact below_drewN (Below.refl _ _) m
theorem Drw.quiet {P : Program} {f : FuncId} {args : Array Value} {w : World} {n : Nat} {v : Value}
    (h : Calls P f args (w.drewN n) fun e w' => e = .returned v ∧ Drw (w.drewN n) w') : Calls P f args (w.drewN n) fun e w'' => e = .returned v ∧ ∃ m, w'' = w.drewN m :=
  h.mono fun _ _ ⟨he, m, hm⟩ => ⟨he, n + m, by rw [hm]; simp⟩
end Go.Proofs.Ytkaakomiimcbmaa
