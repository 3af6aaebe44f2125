/-
  DERIVED. GIVEN WITH THE SEED: THE CARDS: each row of YtcoelccmfljlhaaDoorRows.lean that lists a variable, with what it lists TIED to the program's text (the seventh form; the later family's looks); each row that meets fmt, with fmt's text TOLD by the authors' own Lean function (tested against real Go, not proved from fmt's source: count such statements apart). THE CARD IS WHAT COUNTS. Prove the row's statement (the work); the ties are given (YtcoelccmfljlhaaDoorTie.lean); close each card by the builder's one call (the guide's Derived/Test/ToyasCard.lean, 'card_holds'). Laid BY PROGRAM, IN A SANDBOX (cutbox-door.mjs). By AI agents, Wed Nov 11 2026. No macro, syntax, notation, axiom, sorry.
-/
import Derived.Test.YtcoelccmfljlhaaDoorRows
import GoSem.ClaimSeven
namespace Go.Proofs.YtcoelccmfljlhaaDoor
namespace Rows

/-- THE TIED CARD OF 'laws.FnExactShareOf'. -/
def fnExactShareOfCard : Claim7 := { stood := { row := fnExactShareOfRow, standIns := [], harness := (true, "ef9010d878c004d0131511a087e5412a26cebecf977b0fed536d86c88782185f"), looks := true }, kinds := [], alts := [], laidByText := true, laidKinds := [.handle], laidTests := true, laidLooks := .later }
def FnExactShareOfCardSaid : Prop := Claim7.holds Tryd.pinned (.plain (OpenSpec.ofChange fnExactShareOfSpec)) fnExactShareOfCard

/-- THE SECOND FORM's CARD OF 'laws.FnExactShareOf'. -/
def fnExactShareOfUptoCard : Claim7 := { stood := { row := fnExactShareOfUptoRow, standIns := [], harness := (true, "ef9010d878c004d0131511a087e5412a26cebecf977b0fed536d86c88782185f"), looks := true }, kinds := [], alts := [], laidByText := true, laidKinds := [.handle], laidTests := true, laidLooks := .later }
def FnExactShareOfUptoCardSaid : Prop := Claim7.holds Tryd.pinned (.plain (OpenSpec.upto fnExactShareOfSpec)) fnExactShareOfUptoCard
end Rows
end Go.Proofs.YtcoelccmfljlhaaDoor
