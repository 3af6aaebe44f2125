/-
  DERIVED. GIVEN WITH THE SEED: THE CARDS: each row of YtgoocglcgkfgmaaDoorRows.lean that lists a variable, with what it lists TIED to the program's text (the seventh form; the later family's looks); each row that meets fmt, with fmt's text TOLD by the authors' own Lean function (tested against real Go, not proved from fmt's source: count such statements apart). THE CARD IS WHAT COUNTS. Prove the row's statement (the work); the ties are given (YtgoocglcgkfgmaaDoorTie.lean); close each card by the builder's one call (the guide's Derived/Test/ToyasCard.lean, 'card_holds'). Laid BY PROGRAM, IN A SANDBOX (cutbox-door.mjs). By AI agents, Wed Nov 11 2026. No macro, syntax, notation, axiom, sorry.
-/
import Derived.Test.YtgoocglcgkfgmaaDoorRows
import GoSem.ClaimSeven
namespace Go.Proofs.YtgoocglcgkfgmaaDoor
namespace Rows

/-- THE TIED CARD OF 'laws.FnExactRiskOf'. -/
def fnExactRiskOfCard : Claim7 := { stood := { row := fnExactRiskOfRow, standIns := [], harness := (true, "67610b9378a5e4879d10817a039cd3ca511b5859820110d12bcf61b50dcd4d15"), looks := true }, kinds := [], alts := [], laidByText := true, laidKinds := [.handle], laidTests := true, laidLooks := .later }
def FnExactRiskOfCardSaid : Prop := Claim7.holds Tryd.pinned (.plain (OpenSpec.ofChange fnExactRiskOfSpec)) fnExactRiskOfCard

/-- THE SECOND FORM's CARD OF 'laws.FnExactRiskOf'. -/
def fnExactRiskOfUptoCard : Claim7 := { stood := { row := fnExactRiskOfUptoRow, standIns := [], harness := (true, "67610b9378a5e4879d10817a039cd3ca511b5859820110d12bcf61b50dcd4d15"), looks := true }, kinds := [], alts := [], laidByText := true, laidKinds := [.handle], laidTests := true, laidLooks := .later }
def FnExactRiskOfUptoCardSaid : Prop := Claim7.holds Tryd.pinned (.plain (OpenSpec.upto fnExactRiskOfSpec)) fnExactRiskOfUptoCard
end Rows
end Go.Proofs.YtgoocglcgkfgmaaDoor
