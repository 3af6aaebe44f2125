/-
  DERIVED. GIVEN WITH THE SEED: THE CARDS: each row of YtikiahbgfhaklaaDoorRows.lean that lists a variable, with what it lists TIED to the program's text (the seventh form; the later family's looks); each row that meets fmt, with fmt's text TOLD by the authors' own Lean function (tested against real Go, not proved from fmt's source: count such statements apart). THE CARD IS WHAT COUNTS. Prove the row's statement (the work); the ties are given (YtikiahbgfhaklaaDoorTie.lean); close each card by the builder's one call (the guide's Derived/Test/ToyasCard.lean, 'card_holds'). Laid BY PROGRAM, IN A SANDBOX (cutbox-door.mjs). By AI agents, Wed Nov 11 2026. No macro, syntax, notation, axiom, sorry.
-/
import Derived.Test.YtikiahbgfhaklaaDoorRows
import GoSem.ClaimSeven
namespace Go.Proofs.YtikiahbgfhaklaaDoor
namespace Rows

/-- THE TIED CARD OF 'laws.FnExactStatuteText'. -/
def fnExactStatuteTextCard : Claim7 := { stood := { row := fnExactStatuteTextRow, standIns := [], harness := (true, "9826c4f71d87b22ac7ee5319515c3123ac914eac30dbabb87e5c33a0ce00664b"), looks := true }, kinds := [], alts := [], laidByText := true, laidKinds := [.data, .data, .data, .data, .pinned], laidTests := true, laidLooks := .later }
def FnExactStatuteTextCardSaid : Prop := Claim7.holds Tryd.pinned (.plain (OpenSpec.ofChange fnExactStatuteTextSpec)) fnExactStatuteTextCard

/-- THE TIED CARD OF 'laws.FnExactPatchText'. -/
def fnExactPatchTextCard : Claim7 := { stood := { row := fnExactPatchTextRow, standIns := [], harness := (true, "9826c4f71d87b22ac7ee5319515c3123ac914eac30dbabb87e5c33a0ce00664b"), looks := true }, kinds := [], alts := [], laidByText := true, laidKinds := [.data, .data, .data, .data, .pinned], laidTests := true, laidLooks := .later }
def FnExactPatchTextCardSaid : Prop := Claim7.holds Tryd.pinned (.plain (OpenSpec.ofChange fnExactPatchTextSpec)) fnExactPatchTextCard

/-- THE TIED CARD OF 'laws.FnExactProfileText'. -/
def fnExactProfileTextCard : Claim7 := { stood := { row := fnExactProfileTextRow, standIns := [], harness := (true, "9826c4f71d87b22ac7ee5319515c3123ac914eac30dbabb87e5c33a0ce00664b"), looks := true }, kinds := [], alts := [], laidByText := true, laidKinds := [.data, .data, .data], laidTests := true, laidLooks := .later }
def FnExactProfileTextCardSaid : Prop := Claim7.holds Tryd.pinned (.plain (OpenSpec.ofChange fnExactProfileTextSpec)) fnExactProfileTextCard

/-- THE TIED CARD OF 'laws.FnExactDiffStatutes'. -/
def fnExactDiffStatutesCard : Claim7 := { stood := { row := fnExactDiffStatutesRow, standIns := [], harness := (true, "9826c4f71d87b22ac7ee5319515c3123ac914eac30dbabb87e5c33a0ce00664b"), looks := true }, kinds := [], alts := [], laidByText := true, laidKinds := [.data, .pinned], laidTests := true, laidLooks := .later }
def FnExactDiffStatutesCardSaid : Prop := Claim7.holds Tryd.pinned (.plain (OpenSpec.ofChange fnExactDiffStatutesSpec)) fnExactDiffStatutesCard

/-- THE TIED CARD OF 'laws.FnExactComposePatches'. -/
def fnExactComposePatchesCard : Claim7 := { stood := { row := fnExactComposePatchesRow, standIns := [], harness := (true, "9826c4f71d87b22ac7ee5319515c3123ac914eac30dbabb87e5c33a0ce00664b"), looks := true }, kinds := [], alts := [], laidByText := true, laidKinds := [.data, .pinned], laidTests := true, laidLooks := .later }
def FnExactComposePatchesCardSaid : Prop := Claim7.holds Tryd.pinned (.plain (OpenSpec.ofChange fnExactComposePatchesSpec)) fnExactComposePatchesCard

/-- THE TIED CARD OF 'laws.FnExactMergePatches'. -/
def fnExactMergePatchesCard : Claim7 := { stood := { row := fnExactMergePatchesRow, standIns := [], harness := (true, "9826c4f71d87b22ac7ee5319515c3123ac914eac30dbabb87e5c33a0ce00664b"), looks := true }, kinds := [], alts := [], laidByText := true, laidKinds := [.data, .pinned], laidTests := true, laidLooks := .later }
def FnExactMergePatchesCardSaid : Prop := Claim7.holds Tryd.pinned (.plain (OpenSpec.ofChange fnExactMergePatchesSpec)) fnExactMergePatchesCard

/-- THE TIED CARD OF 'laws.FnExactReadStatute'. -/
def fnExactReadStatuteCard : Claim7 := { stood := { row := fnExactReadStatuteRow, standIns := [], harness := (true, "9826c4f71d87b22ac7ee5319515c3123ac914eac30dbabb87e5c33a0ce00664b"), looks := true }, kinds := [], alts := [], laidByText := true, laidKinds := [.data, .data, .data, .data, .sentinel, .sentinel, .pinned], laidTests := true, laidLooks := .later }
def FnExactReadStatuteCardSaid : Prop := Claim7.holds Tryd.pinned (.plain (OpenSpec.ofChange fnExactReadStatuteSpec)) fnExactReadStatuteCard

/-- THE TIED CARD OF 'laws.FnExactReadPatch'. -/
def fnExactReadPatchCard : Claim7 := { stood := { row := fnExactReadPatchRow, standIns := [], harness := (true, "9826c4f71d87b22ac7ee5319515c3123ac914eac30dbabb87e5c33a0ce00664b"), looks := true }, kinds := [], alts := [], laidByText := true, laidKinds := [.data, .data, .data, .data, .sentinel, .sentinel, .pinned], laidTests := true, laidLooks := .later }
def FnExactReadPatchCardSaid : Prop := Claim7.holds Tryd.pinned (.plain (OpenSpec.ofChange fnExactReadPatchSpec)) fnExactReadPatchCard

/-- THE SECOND FORM's CARD OF 'laws.FnExactStatuteText'. -/
def fnExactStatuteTextUptoCard : Claim7 := { stood := { row := fnExactStatuteTextUptoRow, standIns := [], harness := (true, "9826c4f71d87b22ac7ee5319515c3123ac914eac30dbabb87e5c33a0ce00664b"), looks := true }, kinds := [], alts := [], laidByText := true, laidKinds := [.data, .data, .data, .data, .pinned], laidTests := true, laidLooks := .later }
def FnExactStatuteTextUptoCardSaid : Prop := Claim7.holds Tryd.pinned (.plain (OpenSpec.upto fnExactStatuteTextSpec)) fnExactStatuteTextUptoCard

/-- THE SECOND FORM's CARD OF 'laws.FnExactPatchText'. -/
def fnExactPatchTextUptoCard : Claim7 := { stood := { row := fnExactPatchTextUptoRow, standIns := [], harness := (true, "9826c4f71d87b22ac7ee5319515c3123ac914eac30dbabb87e5c33a0ce00664b"), looks := true }, kinds := [], alts := [], laidByText := true, laidKinds := [.data, .data, .data, .data, .pinned], laidTests := true, laidLooks := .later }
def FnExactPatchTextUptoCardSaid : Prop := Claim7.holds Tryd.pinned (.plain (OpenSpec.upto fnExactPatchTextSpec)) fnExactPatchTextUptoCard

/-- THE SECOND FORM's CARD OF 'laws.FnExactProfileText'. -/
def fnExactProfileTextUptoCard : Claim7 := { stood := { row := fnExactProfileTextUptoRow, standIns := [], harness := (true, "9826c4f71d87b22ac7ee5319515c3123ac914eac30dbabb87e5c33a0ce00664b"), looks := true }, kinds := [], alts := [], laidByText := true, laidKinds := [.data, .data, .data], laidTests := true, laidLooks := .later }
def FnExactProfileTextUptoCardSaid : Prop := Claim7.holds Tryd.pinned (.plain (OpenSpec.upto fnExactProfileTextSpec)) fnExactProfileTextUptoCard

/-- THE SECOND FORM's CARD OF 'laws.FnExactDiffStatutes'. -/
def fnExactDiffStatutesUptoCard : Claim7 := { stood := { row := fnExactDiffStatutesUptoRow, standIns := [], harness := (true, "9826c4f71d87b22ac7ee5319515c3123ac914eac30dbabb87e5c33a0ce00664b"), looks := true }, kinds := [], alts := [], laidByText := true, laidKinds := [.data, .pinned], laidTests := true, laidLooks := .later }
def FnExactDiffStatutesUptoCardSaid : Prop := Claim7.holds Tryd.pinned (.plain (OpenSpec.upto fnExactDiffStatutesSpec)) fnExactDiffStatutesUptoCard

/-- THE SECOND FORM's CARD OF 'laws.FnExactComposePatches'. -/
def fnExactComposePatchesUptoCard : Claim7 := { stood := { row := fnExactComposePatchesUptoRow, standIns := [], harness := (true, "9826c4f71d87b22ac7ee5319515c3123ac914eac30dbabb87e5c33a0ce00664b"), looks := true }, kinds := [], alts := [], laidByText := true, laidKinds := [.data, .pinned], laidTests := true, laidLooks := .later }
def FnExactComposePatchesUptoCardSaid : Prop := Claim7.holds Tryd.pinned (.plain (OpenSpec.upto fnExactComposePatchesSpec)) fnExactComposePatchesUptoCard

/-- THE SECOND FORM's CARD OF 'laws.FnExactMergePatches'. -/
def fnExactMergePatchesUptoCard : Claim7 := { stood := { row := fnExactMergePatchesUptoRow, standIns := [], harness := (true, "9826c4f71d87b22ac7ee5319515c3123ac914eac30dbabb87e5c33a0ce00664b"), looks := true }, kinds := [], alts := [], laidByText := true, laidKinds := [.data, .pinned], laidTests := true, laidLooks := .later }
def FnExactMergePatchesUptoCardSaid : Prop := Claim7.holds Tryd.pinned (.plain (OpenSpec.upto fnExactMergePatchesSpec)) fnExactMergePatchesUptoCard

/-- THE SECOND FORM's CARD OF 'laws.FnExactReadStatute'. -/
def fnExactReadStatuteUptoCard : Claim7 := { stood := { row := fnExactReadStatuteUptoRow, standIns := [], harness := (true, "9826c4f71d87b22ac7ee5319515c3123ac914eac30dbabb87e5c33a0ce00664b"), looks := true }, kinds := [], alts := [], laidByText := true, laidKinds := [.data, .data, .data, .data, .sentinel, .sentinel, .pinned], laidTests := true, laidLooks := .later }
def FnExactReadStatuteUptoCardSaid : Prop := Claim7.holds Tryd.pinned (.plain (OpenSpec.upto fnExactReadStatuteSpec)) fnExactReadStatuteUptoCard

/-- THE SECOND FORM's CARD OF 'laws.FnExactReadPatch'. -/
def fnExactReadPatchUptoCard : Claim7 := { stood := { row := fnExactReadPatchUptoRow, standIns := [], harness := (true, "9826c4f71d87b22ac7ee5319515c3123ac914eac30dbabb87e5c33a0ce00664b"), looks := true }, kinds := [], alts := [], laidByText := true, laidKinds := [.data, .data, .data, .data, .sentinel, .sentinel, .pinned], laidTests := true, laidLooks := .later }
def FnExactReadPatchUptoCardSaid : Prop := Claim7.holds Tryd.pinned (.plain (OpenSpec.upto fnExactReadPatchSpec)) fnExactReadPatchUptoCard
end Rows
end Go.Proofs.YtikiahbgfhaklaaDoor
