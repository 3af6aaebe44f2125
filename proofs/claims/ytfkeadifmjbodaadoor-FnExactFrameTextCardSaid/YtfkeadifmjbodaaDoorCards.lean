/-
  DERIVED. GIVEN WITH THE SEED: THE CARDS: each row of YtfkeadifmjbodaaDoorRows.lean that lists a variable, with what it lists TIED to the program's text (the seventh form; the later family's looks); each row that meets fmt, with fmt's text TOLD by the authors' own Lean function (tested against real Go, not proved from fmt's source: count such statements apart). THE CARD IS WHAT COUNTS. Prove the row's statement (the work); the ties are given (YtfkeadifmjbodaaDoorTie.lean); close each card by the builder's one call (the guide's Derived/Test/ToyasCard.lean, 'card_holds'). Laid BY PROGRAM, IN A SANDBOX (cutbox-door.mjs). By AI agents, Wed Nov 11 2026. No macro, syntax, notation, axiom, sorry.
-/
import Derived.Test.YtfkeadifmjbodaaDoorRows
import GoSem.ClaimSeven
namespace Go.Proofs.YtfkeadifmjbodaaDoor
namespace Rows

/-- THE TIED CARD OF 'laws.FnExactFrameText'. -/
def fnExactFrameTextCard : Claim7 := { stood := { row := fnExactFrameTextRow, standIns := [], harness := (true, "9ac7d5521f3aa419cfab9bba1b240cc9d87efbbe3eb56c7e5e7b6f1a00d9ee6d"), looks := true }, kinds := [], alts := [], laidByText := true, laidKinds := [.data, .data, .data], laidTests := true, laidLooks := .later }
def FnExactFrameTextCardSaid : Prop := Claim7.holds Tryd.pinned (.plain (OpenSpec.ofChange fnExactFrameTextSpec)) fnExactFrameTextCard

/-- THE TIED CARD OF 'laws.FnExactReadFrame'. -/
def fnExactReadFrameCard : Claim7 := { stood := { row := fnExactReadFrameRow, standIns := [], harness := (true, "9ac7d5521f3aa419cfab9bba1b240cc9d87efbbe3eb56c7e5e7b6f1a00d9ee6d"), looks := true }, kinds := [], alts := [], laidByText := true, laidKinds := [.data, .data, .data, .data, .sentinel, .sentinel, .pinned], laidTests := true, laidLooks := .later }
def FnExactReadFrameCardSaid : Prop := Claim7.holds Tryd.pinned (.plain (OpenSpec.ofChange fnExactReadFrameSpec)) fnExactReadFrameCard

/-- THE TIED CARD OF 'laws.FnExactCompleteSets'. -/
def fnExactCompleteSetsCard : Claim7 := { stood := { row := fnExactCompleteSetsRow, standIns := [], harness := (true, "9ac7d5521f3aa419cfab9bba1b240cc9d87efbbe3eb56c7e5e7b6f1a00d9ee6d"), looks := true }, kinds := [], alts := [], laidByText := true, laidKinds := [.data], laidTests := true, laidLooks := .later }
def FnExactCompleteSetsCardSaid : Prop := Claim7.holds Tryd.pinned (.plain (OpenSpec.ofChange fnExactCompleteSetsSpec)) fnExactCompleteSetsCard

/-- THE TIED CARD OF 'laws.FnExactPreferredSets'. -/
def fnExactPreferredSetsCard : Claim7 := { stood := { row := fnExactPreferredSetsRow, standIns := [], harness := (true, "9ac7d5521f3aa419cfab9bba1b240cc9d87efbbe3eb56c7e5e7b6f1a00d9ee6d"), looks := true }, kinds := [], alts := [], laidByText := true, laidKinds := [.data], laidTests := true, laidLooks := .later }
def FnExactPreferredSetsCardSaid : Prop := Claim7.holds Tryd.pinned (.plain (OpenSpec.ofChange fnExactPreferredSetsSpec)) fnExactPreferredSetsCard

/-- THE TIED CARD OF 'laws.FnExactStableSets'. -/
def fnExactStableSetsCard : Claim7 := { stood := { row := fnExactStableSetsRow, standIns := [], harness := (true, "9ac7d5521f3aa419cfab9bba1b240cc9d87efbbe3eb56c7e5e7b6f1a00d9ee6d"), looks := true }, kinds := [], alts := [], laidByText := true, laidKinds := [.data], laidTests := true, laidLooks := .later }
def FnExactStableSetsCardSaid : Prop := Claim7.holds Tryd.pinned (.plain (OpenSpec.ofChange fnExactStableSetsSpec)) fnExactStableSetsCard

/-- THE TIED CARD OF 'laws.FnExactIdealSet'. -/
def fnExactIdealSetCard : Claim7 := { stood := { row := fnExactIdealSetRow, standIns := [], harness := (true, "9ac7d5521f3aa419cfab9bba1b240cc9d87efbbe3eb56c7e5e7b6f1a00d9ee6d"), looks := true }, kinds := [], alts := [], laidByText := true, laidKinds := [.data], laidTests := true, laidLooks := .later }
def FnExactIdealSetCardSaid : Prop := Claim7.holds Tryd.pinned (.plain (OpenSpec.ofChange fnExactIdealSetSpec)) fnExactIdealSetCard

/-- THE TIED CARD OF 'laws.FnExactStandingOf'. -/
def fnExactStandingOfCard : Claim7 := { stood := { row := fnExactStandingOfRow, standIns := [], harness := (true, "9ac7d5521f3aa419cfab9bba1b240cc9d87efbbe3eb56c7e5e7b6f1a00d9ee6d"), looks := true }, kinds := [], alts := [], laidByText := true, laidKinds := [.data], laidTests := true, laidLooks := .later }
def FnExactStandingOfCardSaid : Prop := Claim7.holds Tryd.pinned (.plain (OpenSpec.ofChange fnExactStandingOfSpec)) fnExactStandingOfCard

/-- THE TIED CARD OF 'laws.FnExactDefenceOf'. -/
def fnExactDefenceOfCard : Claim7 := { stood := { row := fnExactDefenceOfRow, standIns := [], harness := (true, "9ac7d5521f3aa419cfab9bba1b240cc9d87efbbe3eb56c7e5e7b6f1a00d9ee6d"), looks := true }, kinds := [], alts := [], laidByText := true, laidKinds := [.data], laidTests := true, laidLooks := .later }
def FnExactDefenceOfCardSaid : Prop := Claim7.holds Tryd.pinned (.plain (OpenSpec.ofChange fnExactDefenceOfSpec)) fnExactDefenceOfCard

/-- THE TIED CARD OF 'laws.FnExactStrategyFor'. -/
def fnExactStrategyForCard : Claim7 := { stood := { row := fnExactStrategyForRow, standIns := [], harness := (true, "9ac7d5521f3aa419cfab9bba1b240cc9d87efbbe3eb56c7e5e7b6f1a00d9ee6d"), looks := true }, kinds := [], alts := [], laidByText := true, laidKinds := [.data], laidTests := true, laidLooks := .later }
def FnExactStrategyForCardSaid : Prop := Claim7.holds Tryd.pinned (.plain (OpenSpec.ofChange fnExactStrategyForSpec)) fnExactStrategyForCard

/-- THE SECOND FORM's CARD OF 'laws.FnExactFrameText'. -/
def fnExactFrameTextUptoCard : Claim7 := { stood := { row := fnExactFrameTextUptoRow, standIns := [], harness := (true, "9ac7d5521f3aa419cfab9bba1b240cc9d87efbbe3eb56c7e5e7b6f1a00d9ee6d"), looks := true }, kinds := [], alts := [], laidByText := true, laidKinds := [.data, .data, .data], laidTests := true, laidLooks := .later }
def FnExactFrameTextUptoCardSaid : Prop := Claim7.holds Tryd.pinned (.plain (OpenSpec.upto fnExactFrameTextSpec)) fnExactFrameTextUptoCard

/-- THE SECOND FORM's CARD OF 'laws.FnExactReadFrame'. -/
def fnExactReadFrameUptoCard : Claim7 := { stood := { row := fnExactReadFrameUptoRow, standIns := [], harness := (true, "9ac7d5521f3aa419cfab9bba1b240cc9d87efbbe3eb56c7e5e7b6f1a00d9ee6d"), looks := true }, kinds := [], alts := [], laidByText := true, laidKinds := [.data, .data, .data, .data, .sentinel, .sentinel, .pinned], laidTests := true, laidLooks := .later }
def FnExactReadFrameUptoCardSaid : Prop := Claim7.holds Tryd.pinned (.plain (OpenSpec.upto fnExactReadFrameSpec)) fnExactReadFrameUptoCard

/-- THE SECOND FORM's CARD OF 'laws.FnExactCompleteSets'. -/
def fnExactCompleteSetsUptoCard : Claim7 := { stood := { row := fnExactCompleteSetsUptoRow, standIns := [], harness := (true, "9ac7d5521f3aa419cfab9bba1b240cc9d87efbbe3eb56c7e5e7b6f1a00d9ee6d"), looks := true }, kinds := [], alts := [], laidByText := true, laidKinds := [.data], laidTests := true, laidLooks := .later }
def FnExactCompleteSetsUptoCardSaid : Prop := Claim7.holds Tryd.pinned (.plain (OpenSpec.upto fnExactCompleteSetsSpec)) fnExactCompleteSetsUptoCard

/-- THE SECOND FORM's CARD OF 'laws.FnExactPreferredSets'. -/
def fnExactPreferredSetsUptoCard : Claim7 := { stood := { row := fnExactPreferredSetsUptoRow, standIns := [], harness := (true, "9ac7d5521f3aa419cfab9bba1b240cc9d87efbbe3eb56c7e5e7b6f1a00d9ee6d"), looks := true }, kinds := [], alts := [], laidByText := true, laidKinds := [.data], laidTests := true, laidLooks := .later }
def FnExactPreferredSetsUptoCardSaid : Prop := Claim7.holds Tryd.pinned (.plain (OpenSpec.upto fnExactPreferredSetsSpec)) fnExactPreferredSetsUptoCard

/-- THE SECOND FORM's CARD OF 'laws.FnExactStableSets'. -/
def fnExactStableSetsUptoCard : Claim7 := { stood := { row := fnExactStableSetsUptoRow, standIns := [], harness := (true, "9ac7d5521f3aa419cfab9bba1b240cc9d87efbbe3eb56c7e5e7b6f1a00d9ee6d"), looks := true }, kinds := [], alts := [], laidByText := true, laidKinds := [.data], laidTests := true, laidLooks := .later }
def FnExactStableSetsUptoCardSaid : Prop := Claim7.holds Tryd.pinned (.plain (OpenSpec.upto fnExactStableSetsSpec)) fnExactStableSetsUptoCard

/-- THE SECOND FORM's CARD OF 'laws.FnExactIdealSet'. -/
def fnExactIdealSetUptoCard : Claim7 := { stood := { row := fnExactIdealSetUptoRow, standIns := [], harness := (true, "9ac7d5521f3aa419cfab9bba1b240cc9d87efbbe3eb56c7e5e7b6f1a00d9ee6d"), looks := true }, kinds := [], alts := [], laidByText := true, laidKinds := [.data], laidTests := true, laidLooks := .later }
def FnExactIdealSetUptoCardSaid : Prop := Claim7.holds Tryd.pinned (.plain (OpenSpec.upto fnExactIdealSetSpec)) fnExactIdealSetUptoCard

/-- THE SECOND FORM's CARD OF 'laws.FnExactStandingOf'. -/
def fnExactStandingOfUptoCard : Claim7 := { stood := { row := fnExactStandingOfUptoRow, standIns := [], harness := (true, "9ac7d5521f3aa419cfab9bba1b240cc9d87efbbe3eb56c7e5e7b6f1a00d9ee6d"), looks := true }, kinds := [], alts := [], laidByText := true, laidKinds := [.data], laidTests := true, laidLooks := .later }
def FnExactStandingOfUptoCardSaid : Prop := Claim7.holds Tryd.pinned (.plain (OpenSpec.upto fnExactStandingOfSpec)) fnExactStandingOfUptoCard

/-- THE SECOND FORM's CARD OF 'laws.FnExactDefenceOf'. -/
def fnExactDefenceOfUptoCard : Claim7 := { stood := { row := fnExactDefenceOfUptoRow, standIns := [], harness := (true, "9ac7d5521f3aa419cfab9bba1b240cc9d87efbbe3eb56c7e5e7b6f1a00d9ee6d"), looks := true }, kinds := [], alts := [], laidByText := true, laidKinds := [.data], laidTests := true, laidLooks := .later }
def FnExactDefenceOfUptoCardSaid : Prop := Claim7.holds Tryd.pinned (.plain (OpenSpec.upto fnExactDefenceOfSpec)) fnExactDefenceOfUptoCard

/-- THE SECOND FORM's CARD OF 'laws.FnExactStrategyFor'. -/
def fnExactStrategyForUptoCard : Claim7 := { stood := { row := fnExactStrategyForUptoRow, standIns := [], harness := (true, "9ac7d5521f3aa419cfab9bba1b240cc9d87efbbe3eb56c7e5e7b6f1a00d9ee6d"), looks := true }, kinds := [], alts := [], laidByText := true, laidKinds := [.data], laidTests := true, laidLooks := .later }
def FnExactStrategyForUptoCardSaid : Prop := Claim7.holds Tryd.pinned (.plain (OpenSpec.upto fnExactStrategyForSpec)) fnExactStrategyForUptoCard
end Rows
end Go.Proofs.YtfkeadifmjbodaaDoor
