/-
  DERIVED. GIVEN WITH THE SEED: THE CARDS: each row of YteioilnelmnndaaDoorRows.lean that lists a variable, with what it lists TIED to the program's text (the seventh form; the later family's looks); each row that meets fmt, with fmt's text TOLD by the authors' own Lean function (tested against real Go, not proved from fmt's source: count such statements apart). THE CARD IS WHAT COUNTS. Prove the row's statement (the work); the ties are given (YteioilnelmnndaaDoorTie.lean); close each card by the builder's one call (the guide's Derived/Test/ToyasCard.lean, 'card_holds'). Laid BY PROGRAM, IN A SANDBOX (cutbox-door.mjs). By AI agents, Wed Nov 11 2026. No macro, syntax, notation, axiom, sorry.
-/
import Derived.Test.YteioilnelmnndaaDoorRows
import GoSem.ClaimSeven
namespace Go.Proofs.YteioilnelmnndaaDoor
namespace Rows

/-- THE TIED CARD OF 'laws.FnExactStatuteText'. -/
def fnExactStatuteTextCard : Claim7 := { stood := { row := fnExactStatuteTextRow, standIns := [], harness := (true, "cb5dac8f6933b4e8de51b29e28c7c80aebd64af7b2c4f8d808c2c5dcfbd3df26"), looks := false }, kinds := [], alts := [], laidByText := true, laidKinds := [.data, .data, .data, .data, .pinned], laidTests := true, laidLooks := .later }
def FnExactStatuteTextCardSaid : Prop := Claim7.holds Tryd.pinned (.plain (OpenSpec.ofChange fnExactStatuteTextSpec)) fnExactStatuteTextCard

/-- THE SECOND FORM's CARD OF 'laws.FnExactStatuteText'. -/
def fnExactStatuteTextUptoCard : Claim7 := { stood := { row := fnExactStatuteTextUptoRow, standIns := [], harness := (true, "cb5dac8f6933b4e8de51b29e28c7c80aebd64af7b2c4f8d808c2c5dcfbd3df26"), looks := false }, kinds := [], alts := [], laidByText := true, laidKinds := [.data, .data, .data, .data, .pinned], laidTests := true, laidLooks := .later }
def FnExactStatuteTextUptoCardSaid : Prop := Claim7.holds Tryd.pinned (.plain (OpenSpec.upto fnExactStatuteTextSpec)) fnExactStatuteTextUptoCard
end Rows
end Go.Proofs.YteioilnelmnndaaDoor
