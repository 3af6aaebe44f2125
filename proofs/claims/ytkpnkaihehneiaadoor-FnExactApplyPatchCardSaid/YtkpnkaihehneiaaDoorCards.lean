/-
  DERIVED. GIVEN WITH THE SEED: THE CARDS: each row of YtkpnkaihehneiaaDoorRows.lean that lists a variable, with what it lists TIED to the program's text (the seventh form; the later family's looks); each row that meets fmt, with fmt's text TOLD by the authors' own Lean function (tested against real Go, not proved from fmt's source: count such statements apart). THE CARD IS WHAT COUNTS. Prove the row's statement (the work); the ties are given (YtkpnkaihehneiaaDoorTie.lean); close each card by the builder's one call (the guide's Derived/Test/ToyasCard.lean, 'card_holds'). Laid BY PROGRAM, IN A SANDBOX (cutbox-door.mjs). By AI agents, Wed Nov 11 2026. No macro, syntax, notation, axiom, sorry.
-/
import Derived.Test.YtkpnkaihehneiaaDoorRows
import GoSem.ClaimSeven
namespace Go.Proofs.YtkpnkaihehneiaaDoor
namespace Rows

/-- THE TIED CARD OF 'laws.FnExactValidStatute'. -/
def fnExactValidStatuteCard : Claim7 := { stood := { row := fnExactValidStatuteRow, standIns := [], harness := (true, "6748a40e6a8de2ed98c530a04214f6cc263222812f89733ccc9fda3b5c272a59"), looks := false }, kinds := [], alts := [], laidByText := true, laidKinds := [.data, .pinned], laidTests := true, laidLooks := .later }
def FnExactValidStatuteCardSaid : Prop := Claim7.holds Tryd.pinned (.plain (OpenSpec.ofChange fnExactValidStatuteSpec)) fnExactValidStatuteCard

/-- THE TIED CARD OF 'laws.FnExactValidPatch'. -/
def fnExactValidPatchCard : Claim7 := { stood := { row := fnExactValidPatchRow, standIns := [], harness := (true, "6748a40e6a8de2ed98c530a04214f6cc263222812f89733ccc9fda3b5c272a59"), looks := false }, kinds := [], alts := [], laidByText := true, laidKinds := [.data, .pinned], laidTests := true, laidLooks := .later }
def FnExactValidPatchCardSaid : Prop := Claim7.holds Tryd.pinned (.plain (OpenSpec.ofChange fnExactValidPatchSpec)) fnExactValidPatchCard

/-- THE TIED CARD OF 'laws.FnExactInversePatch'. -/
def fnExactInversePatchCard : Claim7 := { stood := { row := fnExactInversePatchRow, standIns := [], harness := (true, "6748a40e6a8de2ed98c530a04214f6cc263222812f89733ccc9fda3b5c272a59"), looks := false }, kinds := [], alts := [], laidByText := true, laidKinds := [.data, .pinned], laidTests := true, laidLooks := .later }
def FnExactInversePatchCardSaid : Prop := Claim7.holds Tryd.pinned (.plain (OpenSpec.ofChange fnExactInversePatchSpec)) fnExactInversePatchCard

/-- THE TIED CARD OF 'laws.FnExactConflictsOf'. -/
def fnExactConflictsOfCard : Claim7 := { stood := { row := fnExactConflictsOfRow, standIns := [], harness := (true, "6748a40e6a8de2ed98c530a04214f6cc263222812f89733ccc9fda3b5c272a59"), looks := false }, kinds := [], alts := [], laidByText := true, laidKinds := [.data, .pinned], laidTests := true, laidLooks := .later }
def FnExactConflictsOfCardSaid : Prop := Claim7.holds Tryd.pinned (.plain (OpenSpec.ofChange fnExactConflictsOfSpec)) fnExactConflictsOfCard

/-- THE TIED CARD OF 'laws.FnExactRebasePatch'. -/
def fnExactRebasePatchCard : Claim7 := { stood := { row := fnExactRebasePatchRow, standIns := [], harness := (true, "6748a40e6a8de2ed98c530a04214f6cc263222812f89733ccc9fda3b5c272a59"), looks := false }, kinds := [], alts := [], laidByText := true, laidKinds := [.data, .pinned], laidTests := true, laidLooks := .later }
def FnExactRebasePatchCardSaid : Prop := Claim7.holds Tryd.pinned (.plain (OpenSpec.ofChange fnExactRebasePatchSpec)) fnExactRebasePatchCard

/-- THE TIED CARD OF 'laws.FnExactValidActs'. -/
def fnExactValidActsCard : Claim7 := { stood := { row := fnExactValidActsRow, standIns := [], harness := (true, "6748a40e6a8de2ed98c530a04214f6cc263222812f89733ccc9fda3b5c272a59"), looks := false }, kinds := [], alts := [], laidByText := true, laidKinds := [.data, .pinned], laidTests := true, laidLooks := .later }
def FnExactValidActsCardSaid : Prop := Claim7.holds Tryd.pinned (.plain (OpenSpec.ofChange fnExactValidActsSpec)) fnExactValidActsCard

/-- THE TIED CARD OF 'laws.FnExactActsInForce'. -/
def fnExactActsInForceCard : Claim7 := { stood := { row := fnExactActsInForceRow, standIns := [], harness := (true, "6748a40e6a8de2ed98c530a04214f6cc263222812f89733ccc9fda3b5c272a59"), looks := false }, kinds := [], alts := [], laidByText := true, laidKinds := [.data, .pinned], laidTests := true, laidLooks := .later }
def FnExactActsInForceCardSaid : Prop := Claim7.holds Tryd.pinned (.plain (OpenSpec.ofChange fnExactActsInForceSpec)) fnExactActsInForceCard

/-- THE TIED CARD OF 'laws.FnExactApplyPatch'. -/
def fnExactApplyPatchCard : Claim7 := { stood := { row := fnExactApplyPatchRow, standIns := [], harness := (true, "6748a40e6a8de2ed98c530a04214f6cc263222812f89733ccc9fda3b5c272a59"), looks := false }, kinds := [], alts := [], laidByText := true, laidKinds := [.data, .pinned], laidTests := true, laidLooks := .later }
def FnExactApplyPatchCardSaid : Prop := Claim7.holds Tryd.pinned (.plain (OpenSpec.ofChange fnExactApplyPatchSpec)) fnExactApplyPatchCard

/-- THE SECOND FORM's CARD OF 'laws.FnExactValidStatute'. -/
def fnExactValidStatuteUptoCard : Claim7 := { stood := { row := fnExactValidStatuteUptoRow, standIns := [], harness := (true, "6748a40e6a8de2ed98c530a04214f6cc263222812f89733ccc9fda3b5c272a59"), looks := false }, kinds := [], alts := [], laidByText := true, laidKinds := [.data, .pinned], laidTests := true, laidLooks := .later }
def FnExactValidStatuteUptoCardSaid : Prop := Claim7.holds Tryd.pinned (.plain (OpenSpec.upto fnExactValidStatuteSpec)) fnExactValidStatuteUptoCard

/-- THE SECOND FORM's CARD OF 'laws.FnExactValidPatch'. -/
def fnExactValidPatchUptoCard : Claim7 := { stood := { row := fnExactValidPatchUptoRow, standIns := [], harness := (true, "6748a40e6a8de2ed98c530a04214f6cc263222812f89733ccc9fda3b5c272a59"), looks := false }, kinds := [], alts := [], laidByText := true, laidKinds := [.data, .pinned], laidTests := true, laidLooks := .later }
def FnExactValidPatchUptoCardSaid : Prop := Claim7.holds Tryd.pinned (.plain (OpenSpec.upto fnExactValidPatchSpec)) fnExactValidPatchUptoCard

/-- THE SECOND FORM's CARD OF 'laws.FnExactInversePatch'. -/
def fnExactInversePatchUptoCard : Claim7 := { stood := { row := fnExactInversePatchUptoRow, standIns := [], harness := (true, "6748a40e6a8de2ed98c530a04214f6cc263222812f89733ccc9fda3b5c272a59"), looks := false }, kinds := [], alts := [], laidByText := true, laidKinds := [.data, .pinned], laidTests := true, laidLooks := .later }
def FnExactInversePatchUptoCardSaid : Prop := Claim7.holds Tryd.pinned (.plain (OpenSpec.upto fnExactInversePatchSpec)) fnExactInversePatchUptoCard

/-- THE SECOND FORM's CARD OF 'laws.FnExactConflictsOf'. -/
def fnExactConflictsOfUptoCard : Claim7 := { stood := { row := fnExactConflictsOfUptoRow, standIns := [], harness := (true, "6748a40e6a8de2ed98c530a04214f6cc263222812f89733ccc9fda3b5c272a59"), looks := false }, kinds := [], alts := [], laidByText := true, laidKinds := [.data, .pinned], laidTests := true, laidLooks := .later }
def FnExactConflictsOfUptoCardSaid : Prop := Claim7.holds Tryd.pinned (.plain (OpenSpec.upto fnExactConflictsOfSpec)) fnExactConflictsOfUptoCard

/-- THE SECOND FORM's CARD OF 'laws.FnExactRebasePatch'. -/
def fnExactRebasePatchUptoCard : Claim7 := { stood := { row := fnExactRebasePatchUptoRow, standIns := [], harness := (true, "6748a40e6a8de2ed98c530a04214f6cc263222812f89733ccc9fda3b5c272a59"), looks := false }, kinds := [], alts := [], laidByText := true, laidKinds := [.data, .pinned], laidTests := true, laidLooks := .later }
def FnExactRebasePatchUptoCardSaid : Prop := Claim7.holds Tryd.pinned (.plain (OpenSpec.upto fnExactRebasePatchSpec)) fnExactRebasePatchUptoCard

/-- THE SECOND FORM's CARD OF 'laws.FnExactValidActs'. -/
def fnExactValidActsUptoCard : Claim7 := { stood := { row := fnExactValidActsUptoRow, standIns := [], harness := (true, "6748a40e6a8de2ed98c530a04214f6cc263222812f89733ccc9fda3b5c272a59"), looks := false }, kinds := [], alts := [], laidByText := true, laidKinds := [.data, .pinned], laidTests := true, laidLooks := .later }
def FnExactValidActsUptoCardSaid : Prop := Claim7.holds Tryd.pinned (.plain (OpenSpec.upto fnExactValidActsSpec)) fnExactValidActsUptoCard

/-- THE SECOND FORM's CARD OF 'laws.FnExactActsInForce'. -/
def fnExactActsInForceUptoCard : Claim7 := { stood := { row := fnExactActsInForceUptoRow, standIns := [], harness := (true, "6748a40e6a8de2ed98c530a04214f6cc263222812f89733ccc9fda3b5c272a59"), looks := false }, kinds := [], alts := [], laidByText := true, laidKinds := [.data, .pinned], laidTests := true, laidLooks := .later }
def FnExactActsInForceUptoCardSaid : Prop := Claim7.holds Tryd.pinned (.plain (OpenSpec.upto fnExactActsInForceSpec)) fnExactActsInForceUptoCard

/-- THE SECOND FORM's CARD OF 'laws.FnExactApplyPatch'. -/
def fnExactApplyPatchUptoCard : Claim7 := { stood := { row := fnExactApplyPatchUptoRow, standIns := [], harness := (true, "6748a40e6a8de2ed98c530a04214f6cc263222812f89733ccc9fda3b5c272a59"), looks := false }, kinds := [], alts := [], laidByText := true, laidKinds := [.data, .pinned], laidTests := true, laidLooks := .later }
def FnExactApplyPatchUptoCardSaid : Prop := Claim7.holds Tryd.pinned (.plain (OpenSpec.upto fnExactApplyPatchSpec)) fnExactApplyPatchUptoCard
end Rows
end Go.Proofs.YtkpnkaihehneiaaDoor
