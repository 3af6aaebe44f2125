/-
  DERIVED. GIVEN WITH THE SEED: THE CARDS: each row of YtllfopbpchjhpaaDoorRows.lean that lists a variable, with what it lists TIED to the program's text (the seventh form; the later family's looks); each row that meets fmt, with fmt's text TOLD by the authors' own Lean function (tested against real Go, not proved from fmt's source: count such statements apart). THE CARD IS WHAT COUNTS. Prove the row's statement (the work); the ties are given (YtllfopbpchjhpaaDoorTie.lean); close each card by the builder's one call (the guide's Derived/Test/ToyasCard.lean, 'card_holds'). Laid BY PROGRAM, IN A SANDBOX (cutbox-door.mjs). By AI agents, Wed Nov 11 2026. No macro, syntax, notation, axiom, sorry.
-/
import Derived.Test.YtllfopbpchjhpaaDoorRows
import GoSem.ClaimSeven
namespace Go.Proofs.YtllfopbpchjhpaaDoor
namespace Rows

/-- THE TIED CARD OF 'laws.FnRounds'. -/
def fnRoundsCard : Claim7 := { stood := { row := fnRoundsRow, standIns := [], harness := (true, "1b8513cba08df156a1108231804b2d765bd517d4d5a76084b540a757baa79b41"), looks := false }, kinds := [], alts := [], laidByText := true, laidKinds := [.data], laidTests := true, laidLooks := .later }
def FnRoundsCardSaid : Prop := Claim7.holds Tryd.pinned (.plain (OpenSpec.ofChange fnRoundsSpec)) fnRoundsCard

/-- THE SECOND FORM's CARD OF 'laws.FnRounds'. -/
def fnRoundsUptoCard : Claim7 := { stood := { row := fnRoundsUptoRow, standIns := [], harness := (true, "1b8513cba08df156a1108231804b2d765bd517d4d5a76084b540a757baa79b41"), looks := false }, kinds := [], alts := [], laidByText := true, laidKinds := [.data], laidTests := true, laidLooks := .later }
def FnRoundsUptoCardSaid : Prop := Claim7.holds Tryd.pinned (.plain (OpenSpec.upto fnRoundsSpec)) fnRoundsUptoCard
end Rows
end Go.Proofs.YtllfopbpchjhpaaDoor
