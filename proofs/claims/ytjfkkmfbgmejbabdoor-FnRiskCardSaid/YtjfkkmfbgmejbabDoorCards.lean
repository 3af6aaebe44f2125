/-
  DERIVED. GIVEN WITH THE SEED: THE CARDS: each row of YtjfkkmfbgmejbabDoorRows.lean that lists a variable, with what it lists TIED to the program's text (the seventh form; the later family's looks); each row that meets fmt, with fmt's text TOLD by the authors' own Lean function (tested against real Go, not proved from fmt's source: count such statements apart). THE CARD IS WHAT COUNTS. Prove the row's statement (the work); the ties are given (YtjfkkmfbgmejbabDoorTie.lean); close each card by the builder's one call (the guide's Derived/Test/ToyasCard.lean, 'card_holds'). Laid BY PROGRAM, IN A SANDBOX (cutbox-door.mjs). By AI agents, Wed Nov 11 2026. No macro, syntax, notation, axiom, sorry.
-/
import Derived.Test.YtjfkkmfbgmejbabDoorRows
import GoSem.ClaimSeven
namespace Go.Proofs.YtjfkkmfbgmejbabDoor
namespace Rows

/-- THE TIED CARD OF 'laws.FnExactSampleFor'. -/
def fnExactSampleForCard : Claim7 := { stood := { row := fnExactSampleForRow, standIns := [], harness := (true, "08c43faf0180df5caea13325bea3ebf51bedcaedae3b6640994c7093d922053e"), looks := true }, kinds := [], alts := [], laidByText := true, laidKinds := [.handle], laidTests := true, laidLooks := .later }
def FnExactSampleForCardSaid : Prop := Claim7.holds Tryd.pinned (.plain (OpenSpec.ofChange fnExactSampleForSpec)) fnExactSampleForCard

/-- THE TIED CARD OF 'laws.FnExactRunAudit'. -/
def fnExactRunAuditCard : Claim7 := { stood := { row := fnExactRunAuditRow, standIns := [], harness := (true, "08c43faf0180df5caea13325bea3ebf51bedcaedae3b6640994c7093d922053e"), looks := true }, kinds := [], alts := [], laidByText := true, laidKinds := [.handle, .sentinel], laidTests := true, laidLooks := .later }
def FnExactRunAuditCardSaid : Prop := Claim7.holds Tryd.pinned (.plain (OpenSpec.ofChange fnExactRunAuditSpec)) fnExactRunAuditCard

/-- THE TIED CARD OF 'laws.FnMargin'. -/
def fnMarginCard : Claim7 := { stood := { row := fnMarginRow, standIns := [], harness := (true, "08c43faf0180df5caea13325bea3ebf51bedcaedae3b6640994c7093d922053e"), looks := true }, kinds := [], alts := [], laidByText := true, laidKinds := [.sentinel], laidTests := true, laidLooks := .later }
def FnMarginCardSaid : Prop := Claim7.holds Tryd.pinned (.plain (OpenSpec.ofChange fnMarginSpec)) fnMarginCard

/-- THE TIED CARD OF 'laws.FnRisk'. -/
def fnRiskCard : Claim7 := { stood := { row := fnRiskRow, standIns := [], harness := (true, "08c43faf0180df5caea13325bea3ebf51bedcaedae3b6640994c7093d922053e"), looks := true }, kinds := [], alts := [], laidByText := true, laidKinds := [.handle], laidTests := true, laidLooks := .later }
def FnRiskCardSaid : Prop := Claim7.holds Tryd.pinned (.plain (OpenSpec.ofChange fnRiskSpec)) fnRiskCard

/-- THE TIED CARD OF 'laws.FnAudited'. -/
def fnAuditedCard : Claim7 := { stood := { row := fnAuditedRow, standIns := [], harness := (true, "08c43faf0180df5caea13325bea3ebf51bedcaedae3b6640994c7093d922053e"), looks := true }, kinds := [], alts := [], laidByText := true, laidKinds := [.handle, .sentinel], laidTests := true, laidLooks := .later }
def FnAuditedCardSaid : Prop := Claim7.holds Tryd.pinned (.plain (OpenSpec.ofChange fnAuditedSpec)) fnAuditedCard

/-- THE SECOND FORM's CARD OF 'laws.FnExactSampleFor'. -/
def fnExactSampleForUptoCard : Claim7 := { stood := { row := fnExactSampleForUptoRow, standIns := [], harness := (true, "08c43faf0180df5caea13325bea3ebf51bedcaedae3b6640994c7093d922053e"), looks := true }, kinds := [], alts := [], laidByText := true, laidKinds := [.handle], laidTests := true, laidLooks := .later }
def FnExactSampleForUptoCardSaid : Prop := Claim7.holds Tryd.pinned (.plain (OpenSpec.upto fnExactSampleForSpec)) fnExactSampleForUptoCard

/-- THE SECOND FORM's CARD OF 'laws.FnExactRunAudit'. -/
def fnExactRunAuditUptoCard : Claim7 := { stood := { row := fnExactRunAuditUptoRow, standIns := [], harness := (true, "08c43faf0180df5caea13325bea3ebf51bedcaedae3b6640994c7093d922053e"), looks := true }, kinds := [], alts := [], laidByText := true, laidKinds := [.handle, .sentinel], laidTests := true, laidLooks := .later }
def FnExactRunAuditUptoCardSaid : Prop := Claim7.holds Tryd.pinned (.plain (OpenSpec.upto fnExactRunAuditSpec)) fnExactRunAuditUptoCard

/-- THE SECOND FORM's CARD OF 'laws.FnMargin'. -/
def fnMarginUptoCard : Claim7 := { stood := { row := fnMarginUptoRow, standIns := [], harness := (true, "08c43faf0180df5caea13325bea3ebf51bedcaedae3b6640994c7093d922053e"), looks := true }, kinds := [], alts := [], laidByText := true, laidKinds := [.sentinel], laidTests := true, laidLooks := .later }
def FnMarginUptoCardSaid : Prop := Claim7.holds Tryd.pinned (.plain (OpenSpec.upto fnMarginSpec)) fnMarginUptoCard

/-- THE SECOND FORM's CARD OF 'laws.FnRisk'. -/
def fnRiskUptoCard : Claim7 := { stood := { row := fnRiskUptoRow, standIns := [], harness := (true, "08c43faf0180df5caea13325bea3ebf51bedcaedae3b6640994c7093d922053e"), looks := true }, kinds := [], alts := [], laidByText := true, laidKinds := [.handle], laidTests := true, laidLooks := .later }
def FnRiskUptoCardSaid : Prop := Claim7.holds Tryd.pinned (.plain (OpenSpec.upto fnRiskSpec)) fnRiskUptoCard

/-- THE SECOND FORM's CARD OF 'laws.FnAudited'. -/
def fnAuditedUptoCard : Claim7 := { stood := { row := fnAuditedUptoRow, standIns := [], harness := (true, "08c43faf0180df5caea13325bea3ebf51bedcaedae3b6640994c7093d922053e"), looks := true }, kinds := [], alts := [], laidByText := true, laidKinds := [.handle, .sentinel], laidTests := true, laidLooks := .later }
def FnAuditedUptoCardSaid : Prop := Claim7.holds Tryd.pinned (.plain (OpenSpec.upto fnAuditedSpec)) fnAuditedUptoCard
end Rows
end Go.Proofs.YtjfkkmfbgmejbabDoor
