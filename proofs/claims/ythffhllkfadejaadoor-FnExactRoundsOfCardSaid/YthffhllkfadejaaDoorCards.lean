/-
  DERIVED. GIVEN WITH THE SEED: THE CARDS: each row of YthffhllkfadejaaDoorRows.lean that lists a variable, with what it lists TIED to the program's text (the seventh form; the later family's looks); each row that meets fmt, with fmt's text TOLD by the authors' own Lean function (tested against real Go, not proved from fmt's source: count such statements apart). THE CARD IS WHAT COUNTS. Prove the row's statement (the work); the ties are given (YthffhllkfadejaaDoorTie.lean); close each card by the builder's one call (the guide's Derived/Test/ToyasCard.lean, 'card_holds'). Laid BY PROGRAM, IN A SANDBOX (cutbox-door.mjs). By AI agents, Wed Nov 11 2026. No macro, syntax, notation, axiom, sorry.
-/
import Derived.Test.YthffhllkfadejaaDoorRows
import GoSem.ClaimSeven
namespace Go.Proofs.YthffhllkfadejaaDoor
namespace Rows

/-- THE TIED CARD OF 'laws.FnExactAttackersOf'. -/
def fnExactAttackersOfCard : Claim7 := { stood := { row := fnExactAttackersOfRow, standIns := [], harness := (true, "31e5cd1e7027daaee155369e52d54132c92a58b6afa08d60366532fb7f6f3104"), looks := false }, kinds := [], alts := [], laidByText := true, laidKinds := [.data], laidTests := true, laidLooks := .later }
def FnExactAttackersOfCardSaid : Prop := Claim7.holds Tryd.pinned (.plain (OpenSpec.ofChange fnExactAttackersOfSpec)) fnExactAttackersOfCard

/-- THE TIED CARD OF 'laws.FnExactDefendedBy'. -/
def fnExactDefendedByCard : Claim7 := { stood := { row := fnExactDefendedByRow, standIns := [], harness := (true, "31e5cd1e7027daaee155369e52d54132c92a58b6afa08d60366532fb7f6f3104"), looks := false }, kinds := [], alts := [], laidByText := true, laidKinds := [.data], laidTests := true, laidLooks := .later }
def FnExactDefendedByCardSaid : Prop := Claim7.holds Tryd.pinned (.plain (OpenSpec.ofChange fnExactDefendedBySpec)) fnExactDefendedByCard

/-- THE TIED CARD OF 'laws.FnExactRoundsOf'. -/
def fnExactRoundsOfCard : Claim7 := { stood := { row := fnExactRoundsOfRow, standIns := [], harness := (true, "31e5cd1e7027daaee155369e52d54132c92a58b6afa08d60366532fb7f6f3104"), looks := false }, kinds := [], alts := [], laidByText := true, laidKinds := [.data], laidTests := true, laidLooks := .later }
def FnExactRoundsOfCardSaid : Prop := Claim7.holds Tryd.pinned (.plain (OpenSpec.ofChange fnExactRoundsOfSpec)) fnExactRoundsOfCard

/-- THE TIED CARD OF 'laws.FnExactGroundedSet'. -/
def fnExactGroundedSetCard : Claim7 := { stood := { row := fnExactGroundedSetRow, standIns := [], harness := (true, "31e5cd1e7027daaee155369e52d54132c92a58b6afa08d60366532fb7f6f3104"), looks := false }, kinds := [], alts := [], laidByText := true, laidKinds := [.data], laidTests := true, laidLooks := .later }
def FnExactGroundedSetCardSaid : Prop := Claim7.holds Tryd.pinned (.plain (OpenSpec.ofChange fnExactGroundedSetSpec)) fnExactGroundedSetCard

/-- THE TIED CARD OF 'laws.FnExactReductOf'. -/
def fnExactReductOfCard : Claim7 := { stood := { row := fnExactReductOfRow, standIns := [], harness := (true, "31e5cd1e7027daaee155369e52d54132c92a58b6afa08d60366532fb7f6f3104"), looks := false }, kinds := [], alts := [], laidByText := true, laidKinds := [.data], laidTests := true, laidLooks := .later }
def FnExactReductOfCardSaid : Prop := Claim7.holds Tryd.pinned (.plain (OpenSpec.ofChange fnExactReductOfSpec)) fnExactReductOfCard

/-- THE SECOND FORM's CARD OF 'laws.FnExactAttackersOf'. -/
def fnExactAttackersOfUptoCard : Claim7 := { stood := { row := fnExactAttackersOfUptoRow, standIns := [], harness := (true, "31e5cd1e7027daaee155369e52d54132c92a58b6afa08d60366532fb7f6f3104"), looks := false }, kinds := [], alts := [], laidByText := true, laidKinds := [.data], laidTests := true, laidLooks := .later }
def FnExactAttackersOfUptoCardSaid : Prop := Claim7.holds Tryd.pinned (.plain (OpenSpec.upto fnExactAttackersOfSpec)) fnExactAttackersOfUptoCard

/-- THE SECOND FORM's CARD OF 'laws.FnExactDefendedBy'. -/
def fnExactDefendedByUptoCard : Claim7 := { stood := { row := fnExactDefendedByUptoRow, standIns := [], harness := (true, "31e5cd1e7027daaee155369e52d54132c92a58b6afa08d60366532fb7f6f3104"), looks := false }, kinds := [], alts := [], laidByText := true, laidKinds := [.data], laidTests := true, laidLooks := .later }
def FnExactDefendedByUptoCardSaid : Prop := Claim7.holds Tryd.pinned (.plain (OpenSpec.upto fnExactDefendedBySpec)) fnExactDefendedByUptoCard

/-- THE SECOND FORM's CARD OF 'laws.FnExactRoundsOf'. -/
def fnExactRoundsOfUptoCard : Claim7 := { stood := { row := fnExactRoundsOfUptoRow, standIns := [], harness := (true, "31e5cd1e7027daaee155369e52d54132c92a58b6afa08d60366532fb7f6f3104"), looks := false }, kinds := [], alts := [], laidByText := true, laidKinds := [.data], laidTests := true, laidLooks := .later }
def FnExactRoundsOfUptoCardSaid : Prop := Claim7.holds Tryd.pinned (.plain (OpenSpec.upto fnExactRoundsOfSpec)) fnExactRoundsOfUptoCard

/-- THE SECOND FORM's CARD OF 'laws.FnExactGroundedSet'. -/
def fnExactGroundedSetUptoCard : Claim7 := { stood := { row := fnExactGroundedSetUptoRow, standIns := [], harness := (true, "31e5cd1e7027daaee155369e52d54132c92a58b6afa08d60366532fb7f6f3104"), looks := false }, kinds := [], alts := [], laidByText := true, laidKinds := [.data], laidTests := true, laidLooks := .later }
def FnExactGroundedSetUptoCardSaid : Prop := Claim7.holds Tryd.pinned (.plain (OpenSpec.upto fnExactGroundedSetSpec)) fnExactGroundedSetUptoCard

/-- THE SECOND FORM's CARD OF 'laws.FnExactReductOf'. -/
def fnExactReductOfUptoCard : Claim7 := { stood := { row := fnExactReductOfUptoRow, standIns := [], harness := (true, "31e5cd1e7027daaee155369e52d54132c92a58b6afa08d60366532fb7f6f3104"), looks := false }, kinds := [], alts := [], laidByText := true, laidKinds := [.data], laidTests := true, laidLooks := .later }
def FnExactReductOfUptoCardSaid : Prop := Claim7.holds Tryd.pinned (.plain (OpenSpec.upto fnExactReductOfSpec)) fnExactReductOfUptoCard
end Rows
end Go.Proofs.YthffhllkfadejaaDoor
