/-
  DERIVED. GIVEN WITH THE SEED: THE CARDS: each row of YtikgaaaehoekaaaDoorRows.lean that lists a variable, with what it lists TIED to the program's text (the seventh form; the later family's looks); each row that meets fmt, with fmt's text TOLD by the authors' own Lean function (tested against real Go, not proved from fmt's source: count such statements apart). THE CARD IS WHAT COUNTS. Prove the row's statement (the work); the ties are given (YtikgaaaehoekaaaDoorTie.lean); close each card by the builder's one call (the guide's Derived/Test/ToyasCard.lean, 'card_holds'). Laid BY PROGRAM, IN A SANDBOX (cutbox-door.mjs). By AI agents, Wed Nov 11 2026. No macro, syntax, notation, axiom, sorry.
-/
import Derived.Test.YtikgaaaehoekaaaDoorRows
import GoSem.ClaimSeven
namespace Go.Proofs.YtikgaaaehoekaaaDoor
namespace Rows

/-- THE TIED CARD OF 'laws.FnExactPatchText'. -/
def fnExactPatchTextCard : Claim7 := { stood := { row := fnExactPatchTextRow, standIns := [], harness := (true, "af66265aa3b31cb79637abab8085341e7f5cfaf56739e329e26b96353eda877d"), looks := false }, kinds := [], alts := [], laidByText := true, laidKinds := [.data, .data, .data, .data, .pinned], laidTests := true, laidLooks := .later }
def FnExactPatchTextCardSaid : Prop := Claim7.holds Tryd.pinned (.plain (OpenSpec.ofChange fnExactPatchTextSpec)) fnExactPatchTextCard

/-- THE SECOND FORM's CARD OF 'laws.FnExactPatchText'. -/
def fnExactPatchTextUptoCard : Claim7 := { stood := { row := fnExactPatchTextUptoRow, standIns := [], harness := (true, "af66265aa3b31cb79637abab8085341e7f5cfaf56739e329e26b96353eda877d"), looks := false }, kinds := [], alts := [], laidByText := true, laidKinds := [.data, .data, .data, .data, .pinned], laidTests := true, laidLooks := .later }
def FnExactPatchTextUptoCardSaid : Prop := Claim7.holds Tryd.pinned (.plain (OpenSpec.upto fnExactPatchTextSpec)) fnExactPatchTextUptoCard
end Rows
end Go.Proofs.YtikgaaaehoekaaaDoor
