/- The program's ValidFrame. -/
import Derived.Test.YtllfopbpchjhpaaDoorGr7
namespace Go.Proofs.YtllfopbpchjhpaaDoor
open Go.ChangeShapes Go.WideShapes Go.ChangeAt Go.RowKit Go.Deep Go.Maps
set_option linter.unusedSimpArgs false
set_option linter.unusedVariables false
set_option maxRecDepth 100000
theorem graphof_yesX (X : Fm) (b cp : Nat) (w : World) (h : FmX w b X) (ok : fOk X) :
    Calls Tryd.prog 12 #[.agg #[.int .i64 X.1, .slice (some ⟨b, 0, none⟩) X.2.length cp]] w fun e w' => ∃ m, e = .returned (.agg #[.int .i64 X.1, .map (some m)]) ∧ GrIs w' X.1.toNat m X.2 ∧ Below w.heap.size w w' :=
  (graphofX X b cp w h).mono fun e w' h => by
    obtain ⟨⟨_, m, h1, h2⟩ | ⟨h1, _⟩, h3⟩ := h
    · exact ⟨m, h1, h2, h3⟩
    · exact absurd ok h1
theorem graphof_yes (X : Fm) (b hi : Nat) (w : World) (h : FmR w b hi X) (ok : fOk X) :
    Calls Tryd.prog 12 #[.agg #[.int .i64 X.1, .slice (some ⟨b, 0, none⟩) X.2.length X.2.length]] w fun e w' => ∃ m, e = .returned (.agg #[.int .i64 X.1, .map (some m)]) ∧ GrIs w' X.1.toNat m X.2 ∧ Below w.heap.size w w' :=
  (graphof X b hi w h).mono fun e w' h => by
    obtain ⟨⟨_, m, h1, h2⟩ | ⟨h1, _⟩, h3⟩ := h
    · exact ⟨m, h1, h2, h3⟩
    · exact absurd ok h1
theorem graphof_no (X : Fm) (b hi : Nat) (w : World) (h : FmR w b hi X) (no : ¬ fOk X) :
    Calls Tryd.prog 12 #[.agg #[.int .i64 X.1, .slice (some ⟨b, 0, none⟩) X.2.length X.2.length]] w fun e w' => Panics e ∧ Below w.heap.size w w' :=
  (graphof X b hi w h).mono fun e w' h => by
    obtain ⟨⟨h1, _⟩ | ⟨_, h1⟩, h3⟩ := h
    · exact absurd h1 no
    · exact ⟨h1, h3⟩
end Go.Proofs.YtllfopbpchjhpaaDoor
