/-
  DERIVED. GIVEN WITH THE SEED: THE CARDS: each row of YtfjpjiieocdgeaaDoorRows.lean that lists a variable, with what it lists TIED to the program's text (the seventh form; the later family's looks); each row that meets fmt, with fmt's text TOLD by the authors' own Lean function (tested against real Go, not proved from fmt's source: count such statements apart). THE CARD IS WHAT COUNTS. Prove the row's statement (the work); the ties are given (YtfjpjiieocdgeaaDoorTie.lean); close each card by the builder's one call (the guide's Derived/Test/ToyasCard.lean, 'card_holds'). Laid BY PROGRAM, IN A SANDBOX (cutbox-door.mjs). By AI agents, Wed Nov 11 2026. No macro, syntax, notation, axiom, sorry.
-/
import Derived.Test.YtfjpjiieocdgeaaDoorRows
import GoSem.ClaimSeven
namespace Go.Proofs.YtfjpjiieocdgeaaDoor
namespace Rows

/-- THE TIED CARD OF 'laws.FnExactVoicesText'. -/
def fnExactVoicesTextCard : Claim7 := { stood := { row := fnExactVoicesTextRow, standIns := [], harness := (true, "6b34059114dbd221ff8f97474ac54f21d15663d495e780145265d4d78e8fd4f2"), looks := false }, kinds := [], alts := [], laidByText := true, laidKinds := [.data, .data, .data], laidTests := true, laidLooks := .later }
def FnExactVoicesTextCardSaid : Prop := Claim7.holds Tryd.pinned (.plain (OpenSpec.ofChange fnExactVoicesTextSpec)) fnExactVoicesTextCard

/-- THE TIED CARD OF 'laws.FnExactSharesText'. -/
def fnExactSharesTextCard : Claim7 := { stood := { row := fnExactSharesTextRow, standIns := [], harness := (true, "6b34059114dbd221ff8f97474ac54f21d15663d495e780145265d4d78e8fd4f2"), looks := false }, kinds := [], alts := [], laidByText := true, laidKinds := [.data, .data, .data], laidTests := true, laidLooks := .later }
def FnExactSharesTextCardSaid : Prop := Claim7.holds Tryd.pinned (.plain (OpenSpec.ofChange fnExactSharesTextSpec)) fnExactSharesTextCard

/-- THE TIED CARD OF 'laws.FnExactPoolText'. -/
def fnExactPoolTextCard : Claim7 := { stood := { row := fnExactPoolTextRow, standIns := [], harness := (true, "6b34059114dbd221ff8f97474ac54f21d15663d495e780145265d4d78e8fd4f2"), looks := false }, kinds := [], alts := [], laidByText := true, laidKinds := [.data, .data, .data], laidTests := true, laidLooks := .later }
def FnExactPoolTextCardSaid : Prop := Claim7.holds Tryd.pinned (.plain (OpenSpec.ofChange fnExactPoolTextSpec)) fnExactPoolTextCard

/-- THE SECOND FORM's CARD OF 'laws.FnExactVoicesText'. -/
def fnExactVoicesTextUptoCard : Claim7 := { stood := { row := fnExactVoicesTextUptoRow, standIns := [], harness := (true, "6b34059114dbd221ff8f97474ac54f21d15663d495e780145265d4d78e8fd4f2"), looks := false }, kinds := [], alts := [], laidByText := true, laidKinds := [.data, .data, .data], laidTests := true, laidLooks := .later }
def FnExactVoicesTextUptoCardSaid : Prop := Claim7.holds Tryd.pinned (.plain (OpenSpec.upto fnExactVoicesTextSpec)) fnExactVoicesTextUptoCard

/-- THE SECOND FORM's CARD OF 'laws.FnExactSharesText'. -/
def fnExactSharesTextUptoCard : Claim7 := { stood := { row := fnExactSharesTextUptoRow, standIns := [], harness := (true, "6b34059114dbd221ff8f97474ac54f21d15663d495e780145265d4d78e8fd4f2"), looks := false }, kinds := [], alts := [], laidByText := true, laidKinds := [.data, .data, .data], laidTests := true, laidLooks := .later }
def FnExactSharesTextUptoCardSaid : Prop := Claim7.holds Tryd.pinned (.plain (OpenSpec.upto fnExactSharesTextSpec)) fnExactSharesTextUptoCard

/-- THE SECOND FORM's CARD OF 'laws.FnExactPoolText'. -/
def fnExactPoolTextUptoCard : Claim7 := { stood := { row := fnExactPoolTextUptoRow, standIns := [], harness := (true, "6b34059114dbd221ff8f97474ac54f21d15663d495e780145265d4d78e8fd4f2"), looks := false }, kinds := [], alts := [], laidByText := true, laidKinds := [.data, .data, .data], laidTests := true, laidLooks := .later }
def FnExactPoolTextUptoCardSaid : Prop := Claim7.holds Tryd.pinned (.plain (OpenSpec.upto fnExactPoolTextSpec)) fnExactPoolTextUptoCard
end Rows
end Go.Proofs.YtfjpjiieocdgeaaDoor
