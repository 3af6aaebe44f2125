/-
  DERIVED. GIVEN WITH THE SEED: THE CARDS: each row of YtlpidgdlbannbabDoorRows.lean that lists a variable, with what it lists TIED to the program's text (the seventh form; the later family's looks); each row that meets fmt, with fmt's text TOLD by the authors' own Lean function (tested against real Go, not proved from fmt's source: count such statements apart). THE CARD IS WHAT COUNTS. Prove the row's statement (the work); the ties are given (YtlpidgdlbannbabDoorTie.lean); close each card by the builder's one call (the guide's Derived/Test/ToyasCard.lean, 'card_holds'). Laid BY PROGRAM, IN A SANDBOX (cutbox-door.mjs). By AI agents, Wed Nov 11 2026. No macro, syntax, notation, axiom, sorry.
-/
import Derived.Test.YtlpidgdlbannbabDoorRows
import GoSem.ClaimSeven
namespace Go.Proofs.YtlpidgdlbannbabDoor
namespace Rows

/-- THE TIED CARD OF 'laws.FnExactVoicesText'. -/
def fnExactVoicesTextCard : Claim7 := { stood := { row := fnExactVoicesTextRow, standIns := [], harness := (true, "fff222e758ae5348d0557adfba3031066bbaee1add4cd6e8141698386bf7320e"), looks := false }, kinds := [], alts := [], laidByText := true, laidKinds := [.data, .data, .data], laidTests := true, laidLooks := .later }
def FnExactVoicesTextCardSaid : Prop := Claim7.holds Tryd.pinned (.plain (OpenSpec.ofChange fnExactVoicesTextSpec)) fnExactVoicesTextCard

/-- THE SECOND FORM's CARD OF 'laws.FnExactVoicesText'. -/
def fnExactVoicesTextUptoCard : Claim7 := { stood := { row := fnExactVoicesTextUptoRow, standIns := [], harness := (true, "fff222e758ae5348d0557adfba3031066bbaee1add4cd6e8141698386bf7320e"), looks := false }, kinds := [], alts := [], laidByText := true, laidKinds := [.data, .data, .data], laidTests := true, laidLooks := .later }
def FnExactVoicesTextUptoCardSaid : Prop := Claim7.holds Tryd.pinned (.plain (OpenSpec.upto fnExactVoicesTextSpec)) fnExactVoicesTextUptoCard
end Rows
end Go.Proofs.YtlpidgdlbannbabDoor
