/- Edits: whether they are valid: the specification's look. -/
import Derived.Test.YteioilnelmnndaaDoorEd3
import Derived.Test.YteioilnelmnndaaDoorPo3
namespace Go.Proofs.YteioilnelmnndaaDoor
open Go.ChangeShapes Go.WideShapes Go.ChangeAt Go.RowKit Go.Deep
set_option linter.unusedSimpArgs false
set_option linter.unusedVariables false
theorem EdAt.below {w w' : World} {b o : Nat} {e : Ed} (h : EdAt w b o e) (hb : Below w.heap.size w w') : EdAt w' b o e := by
  obtain ⟨h1, h2, h3, h4⟩ := h
  have q : ∀ {o : Nat} {v : Value}, w.cell? ⟨b, o, none⟩ = some v → w'.cell? ⟨b, o, none⟩ = some v := fun {o v} hc => (hb.cell (p := ⟨b, o, none⟩) (World.block_lt_of_cell? _ _ hc)).trans hc
  exact ⟨q h1, q h2, q h3, q h4⟩
theorem ssenN (s : ByteArray) (w : World) (n : Nat) (z : Bool) (hs : s.size ≤ 9223372036854775807) (hz : senB s = z) :
    Calls Tryd.prog 18 #[.string s] (w.drewN n) fun e w' => e = .returned (.bool z) ∧ (w.drewN n) = w' := hz ▸ ssen s _ hs
end Go.Proofs.YteioilnelmnndaaDoor
