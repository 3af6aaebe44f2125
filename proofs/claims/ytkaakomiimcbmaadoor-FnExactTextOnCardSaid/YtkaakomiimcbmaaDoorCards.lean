/-
  DERIVED. GIVEN WITH THE SEED: THE CARDS: each row of YtkaakomiimcbmaaDoorRows.lean that lists a variable, with what it lists TIED to the program's text (the seventh form; the later family's looks); each row that meets fmt, with fmt's text TOLD by the authors' own Lean function (tested against real Go, not proved from fmt's source: count such statements apart). THE CARD IS WHAT COUNTS. Prove the row's statement (the work); the ties are given (YtkaakomiimcbmaaDoorTie.lean); close each card by the builder's one call (the guide's Derived/Test/ToyasCard.lean, 'card_holds'). Laid BY PROGRAM, IN A SANDBOX (cutbox-door.mjs). By AI agents, Wed Nov 11 2026. No macro, syntax, notation, axiom, sorry.
-/
import Derived.Test.YtkaakomiimcbmaaDoorRows
import GoSem.ClaimSeven
namespace Go.Proofs.YtkaakomiimcbmaaDoor
namespace Rows

/-- THE TIED CARD OF 'laws.FnExactValidActs'. -/
def fnExactValidActsCard : Claim7 := { stood := { row := fnExactValidActsRow, standIns := [], harness := (true, "5172a19713122d5f332a16451d3b1c5113a7f94699fae78011da392fa45b42e4"), looks := false }, kinds := [], alts := [], laidByText := true, laidKinds := [.data, .pinned], laidTests := true, laidLooks := .later }
def FnExactValidActsCardSaid : Prop := Claim7.holds Tryd.pinned (.plain (OpenSpec.ofChange fnExactValidActsSpec)) fnExactValidActsCard

/-- THE TIED CARD OF 'laws.FnExactActsInForce'. -/
def fnExactActsInForceCard : Claim7 := { stood := { row := fnExactActsInForceRow, standIns := [], harness := (true, "5172a19713122d5f332a16451d3b1c5113a7f94699fae78011da392fa45b42e4"), looks := false }, kinds := [], alts := [], laidByText := true, laidKinds := [.data, .pinned], laidTests := true, laidLooks := .later }
def FnExactActsInForceCardSaid : Prop := Claim7.holds Tryd.pinned (.plain (OpenSpec.ofChange fnExactActsInForceSpec)) fnExactActsInForceCard

/-- THE TIED CARD OF 'laws.FnExactTextOn'. -/
def fnExactTextOnCard : Claim7 := { stood := { row := fnExactTextOnRow, standIns := [], harness := (true, "5172a19713122d5f332a16451d3b1c5113a7f94699fae78011da392fa45b42e4"), looks := false }, kinds := [], alts := [], laidByText := true, laidKinds := [.data, .pinned], laidTests := true, laidLooks := .later }
def FnExactTextOnCardSaid : Prop := Claim7.holds Tryd.pinned (.plain (OpenSpec.ofChange fnExactTextOnSpec)) fnExactTextOnCard

/-- THE SECOND FORM's CARD OF 'laws.FnExactValidActs'. -/
def fnExactValidActsUptoCard : Claim7 := { stood := { row := fnExactValidActsUptoRow, standIns := [], harness := (true, "5172a19713122d5f332a16451d3b1c5113a7f94699fae78011da392fa45b42e4"), looks := false }, kinds := [], alts := [], laidByText := true, laidKinds := [.data, .pinned], laidTests := true, laidLooks := .later }
def FnExactValidActsUptoCardSaid : Prop := Claim7.holds Tryd.pinned (.plain (OpenSpec.upto fnExactValidActsSpec)) fnExactValidActsUptoCard

/-- THE SECOND FORM's CARD OF 'laws.FnExactActsInForce'. -/
def fnExactActsInForceUptoCard : Claim7 := { stood := { row := fnExactActsInForceUptoRow, standIns := [], harness := (true, "5172a19713122d5f332a16451d3b1c5113a7f94699fae78011da392fa45b42e4"), looks := false }, kinds := [], alts := [], laidByText := true, laidKinds := [.data, .pinned], laidTests := true, laidLooks := .later }
def FnExactActsInForceUptoCardSaid : Prop := Claim7.holds Tryd.pinned (.plain (OpenSpec.upto fnExactActsInForceSpec)) fnExactActsInForceUptoCard

/-- THE SECOND FORM's CARD OF 'laws.FnExactTextOn'. -/
def fnExactTextOnUptoCard : Claim7 := { stood := { row := fnExactTextOnUptoRow, standIns := [], harness := (true, "5172a19713122d5f332a16451d3b1c5113a7f94699fae78011da392fa45b42e4"), looks := false }, kinds := [], alts := [], laidByText := true, laidKinds := [.data, .pinned], laidTests := true, laidLooks := .later }
def FnExactTextOnUptoCardSaid : Prop := Claim7.holds Tryd.pinned (.plain (OpenSpec.upto fnExactTextOnSpec)) fnExactTextOnUptoCard
end Rows
end Go.Proofs.YtkaakomiimcbmaaDoor
