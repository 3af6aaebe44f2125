/-
  DERIVED. GIVEN WITH THE SEED: THE CARDS: each row of YtcmhdjoajkljfaaDoorRows.lean that lists a variable, with what it lists TIED to the program's text (the seventh form; the later family's looks); each row that meets fmt, with fmt's text TOLD by the authors' own Lean function (tested against real Go, not proved from fmt's source: count such statements apart). THE CARD IS WHAT COUNTS. Prove the row's statement (the work); the ties are given (YtcmhdjoajkljfaaDoorTie.lean); close each card by the builder's one call (the guide's Derived/Test/ToyasCard.lean, 'card_holds'). Laid BY PROGRAM, IN A SANDBOX (cutbox-door.mjs). By AI agents, Wed Nov 11 2026. No macro, syntax, notation, axiom, sorry.
-/
import Derived.Test.YtcmhdjoajkljfaaDoorRows
import GoSem.ClaimSeven
namespace Go.Proofs.YtcmhdjoajkljfaaDoor
namespace Rows

/-- THE TIED CARD OF 'laws.FnExactVoicesText'. -/
def fnExactVoicesTextCard : Claim7 := { stood := { row := fnExactVoicesTextRow, standIns := [], harness := (true, "58166a68774bdf3691a7edb2bd84b6ebad0d84d81d2d80e79e67a169ab4504c7"), looks := true }, kinds := [], alts := [], laidByText := true, laidKinds := [.data, .data, .data], laidTests := true, laidLooks := .later }
def FnExactVoicesTextCardSaid : Prop := Claim7.holds Tryd.pinned (.plain (OpenSpec.ofChange fnExactVoicesTextSpec)) fnExactVoicesTextCard

/-- THE TIED CARD OF 'laws.FnExactReadVoices'. -/
def fnExactReadVoicesCard : Claim7 := { stood := { row := fnExactReadVoicesRow, standIns := [], harness := (true, "58166a68774bdf3691a7edb2bd84b6ebad0d84d81d2d80e79e67a169ab4504c7"), looks := true }, kinds := [], alts := [], laidByText := true, laidKinds := [.data, .data, .data, .data, .sentinel, .sentinel, .pinned], laidTests := true, laidLooks := .later }
def FnExactReadVoicesCardSaid : Prop := Claim7.holds Tryd.pinned (.plain (OpenSpec.ofChange fnExactReadVoicesSpec)) fnExactReadVoicesCard

/-- THE TIED CARD OF 'laws.FnExactSumFractions'. -/
def fnExactSumFractionsCard : Claim7 := { stood := { row := fnExactSumFractionsRow, standIns := [], harness := (true, "58166a68774bdf3691a7edb2bd84b6ebad0d84d81d2d80e79e67a169ab4504c7"), looks := true }, kinds := [], alts := [], laidByText := true, laidKinds := [.handle], laidTests := true, laidLooks := .later }
def FnExactSumFractionsCardSaid : Prop := Claim7.holds Tryd.pinned (.plain (OpenSpec.ofChange fnExactSumFractionsSpec)) fnExactSumFractionsCard

/-- THE SECOND FORM's CARD OF 'laws.FnExactVoicesText'. -/
def fnExactVoicesTextUptoCard : Claim7 := { stood := { row := fnExactVoicesTextUptoRow, standIns := [], harness := (true, "58166a68774bdf3691a7edb2bd84b6ebad0d84d81d2d80e79e67a169ab4504c7"), looks := true }, kinds := [], alts := [], laidByText := true, laidKinds := [.data, .data, .data], laidTests := true, laidLooks := .later }
def FnExactVoicesTextUptoCardSaid : Prop := Claim7.holds Tryd.pinned (.plain (OpenSpec.upto fnExactVoicesTextSpec)) fnExactVoicesTextUptoCard

/-- THE SECOND FORM's CARD OF 'laws.FnExactReadVoices'. -/
def fnExactReadVoicesUptoCard : Claim7 := { stood := { row := fnExactReadVoicesUptoRow, standIns := [], harness := (true, "58166a68774bdf3691a7edb2bd84b6ebad0d84d81d2d80e79e67a169ab4504c7"), looks := true }, kinds := [], alts := [], laidByText := true, laidKinds := [.data, .data, .data, .data, .sentinel, .sentinel, .pinned], laidTests := true, laidLooks := .later }
def FnExactReadVoicesUptoCardSaid : Prop := Claim7.holds Tryd.pinned (.plain (OpenSpec.upto fnExactReadVoicesSpec)) fnExactReadVoicesUptoCard

/-- THE SECOND FORM's CARD OF 'laws.FnExactSumFractions'. -/
def fnExactSumFractionsUptoCard : Claim7 := { stood := { row := fnExactSumFractionsUptoRow, standIns := [], harness := (true, "58166a68774bdf3691a7edb2bd84b6ebad0d84d81d2d80e79e67a169ab4504c7"), looks := true }, kinds := [], alts := [], laidByText := true, laidKinds := [.handle], laidTests := true, laidLooks := .later }
def FnExactSumFractionsUptoCardSaid : Prop := Claim7.holds Tryd.pinned (.plain (OpenSpec.upto fnExactSumFractionsSpec)) fnExactSumFractionsUptoCard
end Rows
end Go.Proofs.YtcmhdjoajkljfaaDoor
