/- Marks written into a list of voices of the call's own. -/
import Derived.Test.YtlpidgdlbannbabDoorVq1
namespace Go.Proofs.YtlpidgdlbannbabDoor
open Go.ChangeShapes Go.WideShapes Go.ChangeAt Go.RowKit Go.Deep
set_option linter.unusedSimpArgs false
set_option linter.unusedVariables false
/-- The shape of a list of voices of the call's own: its row, and rows of numbers. -/
structure ShV (w : World) (b n : Nat) (c len : Nat → Nat) : Prop where
  row : ∃ f, w.rowIs b 36 (n * 2) f ∧ ∀ j, j < n → f (j * 2 + 1) = .slice (some ⟨c j, 0, none⟩) (len j) (len j)
  own : ∀ j, j < n → SomeI w (c j) (len j)
theorem ShV.keep {w w' : World} {b n : Nat} {c len : Nat → Nat} (h : ShV w b n c len) {j : Nat} (hj : j < n) (hne : b ≠ c j) (hk : Kept w w' (fun x => x = c j)) (hr : ∃ f, w'.rowIs (c j) 2 (len j) f) : ShV w' b n c len := by
  obtain ⟨⟨f, h1, h2⟩, h3⟩ := h
  refine ⟨⟨f, hk.row h1 hne, h2⟩, fun i hi => ?_⟩
  by_cases e : c i = c j
  · obtain ⟨f', h4⟩ := h3 i hi
    obtain ⟨g, h5⟩ := hr
    obtain ⟨f6, h6⟩ := h3 j hj
    have hl : len i = len j := by
      obtain ⟨c1, q1, q2, _⟩ := h4
      obtain ⟨c2, q3, q4, _⟩ := h6
      rw [e, q3] at q1
      injection q1 with q1
      injection q1 with q1
      rw [← q2, ← q4, q1]
    rw [e, hl]
    exact ⟨g, h5⟩
  · obtain ⟨f', h4⟩ := h3 i hi
    exact ⟨f', hk.row h4 e⟩
theorem ShV.set {w : World} {b n : Nat} {c len : Nat → Nat} (h : ShV w b n c len) (k : Nat) (v : Value) (hne : ∀ j, j < n → b ≠ c j) : ShV (w.setCell ⟨b, k * 2, none⟩ v) b n c len := by
  obtain ⟨⟨f, h1, h2⟩, h3⟩ := h
  refine ⟨⟨_, h1.set (k * 2) v, fun j hj => ?_⟩, fun i hi => ?_⟩
  · rw [if_neg (by omega)]; exact h2 j hj
  · obtain ⟨f', h4⟩ := h3 i hi
    exact ⟨f', h4.setOther (by exact fun e => hne i hi e.symm) _⟩
end Go.Proofs.YtlpidgdlbannbabDoor
