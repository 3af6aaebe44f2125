/-
  DERIVED. GIVEN WITH THE SEED: THE CARDS: each row of YtoppbeojmkbmcaaDoorRows.lean that lists a variable, with what it lists TIED to the program's text (the seventh form; the later family's looks); each row that meets fmt, with fmt's text TOLD by the authors' own Lean function (tested against real Go, not proved from fmt's source: count such statements apart). THE CARD IS WHAT COUNTS. Prove the row's statement (the work); the ties are given (YtoppbeojmkbmcaaDoorTie.lean); close each card by the builder's one call (the guide's Derived/Test/ToyasCard.lean, 'card_holds'). Laid BY PROGRAM, IN A SANDBOX (cutbox-door.mjs). By AI agents, Wed Nov 11 2026. No macro, syntax, notation, axiom, sorry.
-/
import Derived.Test.YtoppbeojmkbmcaaDoorRows
import GoSem.ClaimSeven
namespace Go.Proofs.YtoppbeojmkbmcaaDoor
namespace Rows

/-- THE TIED CARD OF 'laws.FnExactDecimal'. -/
def fnExactDecimalCard : Claim7 := { stood := { row := fnExactDecimalRow, standIns := [], harness := (true, "a9db2c3bc154f4309fe3f5fa559e1812ba44cf3fa7d7f5c89207249605733a30"), looks := true }, kinds := [], alts := [], laidByText := true, laidKinds := [.data, .data, .data], laidTests := true, laidLooks := .later }
def FnExactDecimalCardSaid : Prop := Claim7.holds Tryd.pinned (.plain (OpenSpec.ofChange fnExactDecimalSpec)) fnExactDecimalCard

/-- THE TIED CARD OF 'laws.FnExactReadDecimal'. -/
def fnExactReadDecimalCard : Claim7 := { stood := { row := fnExactReadDecimalRow, standIns := [], harness := (true, "a9db2c3bc154f4309fe3f5fa559e1812ba44cf3fa7d7f5c89207249605733a30"), looks := true }, kinds := [], alts := [], laidByText := true, laidKinds := [.data, .data, .data, .sentinel, .sentinel], laidTests := true, laidLooks := .later }
def FnExactReadDecimalCardSaid : Prop := Claim7.holds Tryd.pinned (.plain (OpenSpec.ofChange fnExactReadDecimalSpec)) fnExactReadDecimalCard

/-- THE TIED CARD OF 'laws.FnExactFractionOf'. -/
def fnExactFractionOfCard : Claim7 := { stood := { row := fnExactFractionOfRow, standIns := [], harness := (true, "a9db2c3bc154f4309fe3f5fa559e1812ba44cf3fa7d7f5c89207249605733a30"), looks := true }, kinds := [], alts := [], laidByText := true, laidKinds := [.handle], laidTests := true, laidLooks := .later }
def FnExactFractionOfCardSaid : Prop := Claim7.holds Tryd.pinned (.plain (OpenSpec.ofChange fnExactFractionOfSpec)) fnExactFractionOfCard

/-- THE TIED CARD OF 'laws.FnExactAddFractions'. -/
def fnExactAddFractionsCard : Claim7 := { stood := { row := fnExactAddFractionsRow, standIns := [], harness := (true, "a9db2c3bc154f4309fe3f5fa559e1812ba44cf3fa7d7f5c89207249605733a30"), looks := true }, kinds := [], alts := [], laidByText := true, laidKinds := [.handle], laidTests := true, laidLooks := .later }
def FnExactAddFractionsCardSaid : Prop := Claim7.holds Tryd.pinned (.plain (OpenSpec.ofChange fnExactAddFractionsSpec)) fnExactAddFractionsCard

/-- THE TIED CARD OF 'laws.FnExactSubFractions'. -/
def fnExactSubFractionsCard : Claim7 := { stood := { row := fnExactSubFractionsRow, standIns := [], harness := (true, "a9db2c3bc154f4309fe3f5fa559e1812ba44cf3fa7d7f5c89207249605733a30"), looks := true }, kinds := [], alts := [], laidByText := true, laidKinds := [.handle], laidTests := true, laidLooks := .later }
def FnExactSubFractionsCardSaid : Prop := Claim7.holds Tryd.pinned (.plain (OpenSpec.ofChange fnExactSubFractionsSpec)) fnExactSubFractionsCard

/-- THE TIED CARD OF 'laws.FnExactMulFractions'. -/
def fnExactMulFractionsCard : Claim7 := { stood := { row := fnExactMulFractionsRow, standIns := [], harness := (true, "a9db2c3bc154f4309fe3f5fa559e1812ba44cf3fa7d7f5c89207249605733a30"), looks := true }, kinds := [], alts := [], laidByText := true, laidKinds := [.handle], laidTests := true, laidLooks := .later }
def FnExactMulFractionsCardSaid : Prop := Claim7.holds Tryd.pinned (.plain (OpenSpec.ofChange fnExactMulFractionsSpec)) fnExactMulFractionsCard

/-- THE TIED CARD OF 'laws.FnExactDivFractions'. -/
def fnExactDivFractionsCard : Claim7 := { stood := { row := fnExactDivFractionsRow, standIns := [], harness := (true, "a9db2c3bc154f4309fe3f5fa559e1812ba44cf3fa7d7f5c89207249605733a30"), looks := true }, kinds := [], alts := [], laidByText := true, laidKinds := [.handle], laidTests := true, laidLooks := .later }
def FnExactDivFractionsCardSaid : Prop := Claim7.holds Tryd.pinned (.plain (OpenSpec.ofChange fnExactDivFractionsSpec)) fnExactDivFractionsCard

/-- THE TIED CARD OF 'laws.FnExactCompareFractions'. -/
def fnExactCompareFractionsCard : Claim7 := { stood := { row := fnExactCompareFractionsRow, standIns := [], harness := (true, "a9db2c3bc154f4309fe3f5fa559e1812ba44cf3fa7d7f5c89207249605733a30"), looks := true }, kinds := [], alts := [], laidByText := true, laidKinds := [.handle], laidTests := true, laidLooks := .later }
def FnExactCompareFractionsCardSaid : Prop := Claim7.holds Tryd.pinned (.plain (OpenSpec.ofChange fnExactCompareFractionsSpec)) fnExactCompareFractionsCard

/-- THE TIED CARD OF 'laws.FnExactFloorOf'. -/
def fnExactFloorOfCard : Claim7 := { stood := { row := fnExactFloorOfRow, standIns := [], harness := (true, "a9db2c3bc154f4309fe3f5fa559e1812ba44cf3fa7d7f5c89207249605733a30"), looks := true }, kinds := [], alts := [], laidByText := true, laidKinds := [.handle], laidTests := true, laidLooks := .later }
def FnExactFloorOfCardSaid : Prop := Claim7.holds Tryd.pinned (.plain (OpenSpec.ofChange fnExactFloorOfSpec)) fnExactFloorOfCard

/-- THE TIED CARD OF 'laws.FnExactSumFractions'. -/
def fnExactSumFractionsCard : Claim7 := { stood := { row := fnExactSumFractionsRow, standIns := [], harness := (true, "a9db2c3bc154f4309fe3f5fa559e1812ba44cf3fa7d7f5c89207249605733a30"), looks := true }, kinds := [], alts := [], laidByText := true, laidKinds := [.handle], laidTests := true, laidLooks := .later }
def FnExactSumFractionsCardSaid : Prop := Claim7.holds Tryd.pinned (.plain (OpenSpec.ofChange fnExactSumFractionsSpec)) fnExactSumFractionsCard

/-- THE TIED CARD OF 'laws.FnExactFractionText'. -/
def fnExactFractionTextCard : Claim7 := { stood := { row := fnExactFractionTextRow, standIns := [], harness := (true, "a9db2c3bc154f4309fe3f5fa559e1812ba44cf3fa7d7f5c89207249605733a30"), looks := true }, kinds := [], alts := [], laidByText := true, laidKinds := [.data, .data, .data, .handle], laidTests := true, laidLooks := .later }
def FnExactFractionTextCardSaid : Prop := Claim7.holds Tryd.pinned (.plain (OpenSpec.ofChange fnExactFractionTextSpec)) fnExactFractionTextCard

/-- THE TIED CARD OF 'laws.FnExactReadFraction'. -/
def fnExactReadFractionCard : Claim7 := { stood := { row := fnExactReadFractionRow, standIns := [], harness := (true, "a9db2c3bc154f4309fe3f5fa559e1812ba44cf3fa7d7f5c89207249605733a30"), looks := true }, kinds := [], alts := [], laidByText := true, laidKinds := [.data, .data, .data, .handle, .sentinel, .sentinel], laidTests := true, laidLooks := .later }
def FnExactReadFractionCardSaid : Prop := Claim7.holds Tryd.pinned (.plain (OpenSpec.ofChange fnExactReadFractionSpec)) fnExactReadFractionCard

/-- THE SECOND FORM's CARD OF 'laws.FnExactDecimal'. -/
def fnExactDecimalUptoCard : Claim7 := { stood := { row := fnExactDecimalUptoRow, standIns := [], harness := (true, "a9db2c3bc154f4309fe3f5fa559e1812ba44cf3fa7d7f5c89207249605733a30"), looks := true }, kinds := [], alts := [], laidByText := true, laidKinds := [.data, .data, .data], laidTests := true, laidLooks := .later }
def FnExactDecimalUptoCardSaid : Prop := Claim7.holds Tryd.pinned (.plain (OpenSpec.upto fnExactDecimalSpec)) fnExactDecimalUptoCard

/-- THE SECOND FORM's CARD OF 'laws.FnExactReadDecimal'. -/
def fnExactReadDecimalUptoCard : Claim7 := { stood := { row := fnExactReadDecimalUptoRow, standIns := [], harness := (true, "a9db2c3bc154f4309fe3f5fa559e1812ba44cf3fa7d7f5c89207249605733a30"), looks := true }, kinds := [], alts := [], laidByText := true, laidKinds := [.data, .data, .data, .sentinel, .sentinel], laidTests := true, laidLooks := .later }
def FnExactReadDecimalUptoCardSaid : Prop := Claim7.holds Tryd.pinned (.plain (OpenSpec.upto fnExactReadDecimalSpec)) fnExactReadDecimalUptoCard

/-- THE SECOND FORM's CARD OF 'laws.FnExactFractionOf'. -/
def fnExactFractionOfUptoCard : Claim7 := { stood := { row := fnExactFractionOfUptoRow, standIns := [], harness := (true, "a9db2c3bc154f4309fe3f5fa559e1812ba44cf3fa7d7f5c89207249605733a30"), looks := true }, kinds := [], alts := [], laidByText := true, laidKinds := [.handle], laidTests := true, laidLooks := .later }
def FnExactFractionOfUptoCardSaid : Prop := Claim7.holds Tryd.pinned (.plain (OpenSpec.upto fnExactFractionOfSpec)) fnExactFractionOfUptoCard

/-- THE SECOND FORM's CARD OF 'laws.FnExactAddFractions'. -/
def fnExactAddFractionsUptoCard : Claim7 := { stood := { row := fnExactAddFractionsUptoRow, standIns := [], harness := (true, "a9db2c3bc154f4309fe3f5fa559e1812ba44cf3fa7d7f5c89207249605733a30"), looks := true }, kinds := [], alts := [], laidByText := true, laidKinds := [.handle], laidTests := true, laidLooks := .later }
def FnExactAddFractionsUptoCardSaid : Prop := Claim7.holds Tryd.pinned (.plain (OpenSpec.upto fnExactAddFractionsSpec)) fnExactAddFractionsUptoCard

/-- THE SECOND FORM's CARD OF 'laws.FnExactSubFractions'. -/
def fnExactSubFractionsUptoCard : Claim7 := { stood := { row := fnExactSubFractionsUptoRow, standIns := [], harness := (true, "a9db2c3bc154f4309fe3f5fa559e1812ba44cf3fa7d7f5c89207249605733a30"), looks := true }, kinds := [], alts := [], laidByText := true, laidKinds := [.handle], laidTests := true, laidLooks := .later }
def FnExactSubFractionsUptoCardSaid : Prop := Claim7.holds Tryd.pinned (.plain (OpenSpec.upto fnExactSubFractionsSpec)) fnExactSubFractionsUptoCard

/-- THE SECOND FORM's CARD OF 'laws.FnExactMulFractions'. -/
def fnExactMulFractionsUptoCard : Claim7 := { stood := { row := fnExactMulFractionsUptoRow, standIns := [], harness := (true, "a9db2c3bc154f4309fe3f5fa559e1812ba44cf3fa7d7f5c89207249605733a30"), looks := true }, kinds := [], alts := [], laidByText := true, laidKinds := [.handle], laidTests := true, laidLooks := .later }
def FnExactMulFractionsUptoCardSaid : Prop := Claim7.holds Tryd.pinned (.plain (OpenSpec.upto fnExactMulFractionsSpec)) fnExactMulFractionsUptoCard

/-- THE SECOND FORM's CARD OF 'laws.FnExactDivFractions'. -/
def fnExactDivFractionsUptoCard : Claim7 := { stood := { row := fnExactDivFractionsUptoRow, standIns := [], harness := (true, "a9db2c3bc154f4309fe3f5fa559e1812ba44cf3fa7d7f5c89207249605733a30"), looks := true }, kinds := [], alts := [], laidByText := true, laidKinds := [.handle], laidTests := true, laidLooks := .later }
def FnExactDivFractionsUptoCardSaid : Prop := Claim7.holds Tryd.pinned (.plain (OpenSpec.upto fnExactDivFractionsSpec)) fnExactDivFractionsUptoCard

/-- THE SECOND FORM's CARD OF 'laws.FnExactCompareFractions'. -/
def fnExactCompareFractionsUptoCard : Claim7 := { stood := { row := fnExactCompareFractionsUptoRow, standIns := [], harness := (true, "a9db2c3bc154f4309fe3f5fa559e1812ba44cf3fa7d7f5c89207249605733a30"), looks := true }, kinds := [], alts := [], laidByText := true, laidKinds := [.handle], laidTests := true, laidLooks := .later }
def FnExactCompareFractionsUptoCardSaid : Prop := Claim7.holds Tryd.pinned (.plain (OpenSpec.upto fnExactCompareFractionsSpec)) fnExactCompareFractionsUptoCard

/-- THE SECOND FORM's CARD OF 'laws.FnExactFloorOf'. -/
def fnExactFloorOfUptoCard : Claim7 := { stood := { row := fnExactFloorOfUptoRow, standIns := [], harness := (true, "a9db2c3bc154f4309fe3f5fa559e1812ba44cf3fa7d7f5c89207249605733a30"), looks := true }, kinds := [], alts := [], laidByText := true, laidKinds := [.handle], laidTests := true, laidLooks := .later }
def FnExactFloorOfUptoCardSaid : Prop := Claim7.holds Tryd.pinned (.plain (OpenSpec.upto fnExactFloorOfSpec)) fnExactFloorOfUptoCard

/-- THE SECOND FORM's CARD OF 'laws.FnExactSumFractions'. -/
def fnExactSumFractionsUptoCard : Claim7 := { stood := { row := fnExactSumFractionsUptoRow, standIns := [], harness := (true, "a9db2c3bc154f4309fe3f5fa559e1812ba44cf3fa7d7f5c89207249605733a30"), looks := true }, kinds := [], alts := [], laidByText := true, laidKinds := [.handle], laidTests := true, laidLooks := .later }
def FnExactSumFractionsUptoCardSaid : Prop := Claim7.holds Tryd.pinned (.plain (OpenSpec.upto fnExactSumFractionsSpec)) fnExactSumFractionsUptoCard

/-- THE SECOND FORM's CARD OF 'laws.FnExactFractionText'. -/
def fnExactFractionTextUptoCard : Claim7 := { stood := { row := fnExactFractionTextUptoRow, standIns := [], harness := (true, "a9db2c3bc154f4309fe3f5fa559e1812ba44cf3fa7d7f5c89207249605733a30"), looks := true }, kinds := [], alts := [], laidByText := true, laidKinds := [.data, .data, .data, .handle], laidTests := true, laidLooks := .later }
def FnExactFractionTextUptoCardSaid : Prop := Claim7.holds Tryd.pinned (.plain (OpenSpec.upto fnExactFractionTextSpec)) fnExactFractionTextUptoCard

/-- THE SECOND FORM's CARD OF 'laws.FnExactReadFraction'. -/
def fnExactReadFractionUptoCard : Claim7 := { stood := { row := fnExactReadFractionUptoRow, standIns := [], harness := (true, "a9db2c3bc154f4309fe3f5fa559e1812ba44cf3fa7d7f5c89207249605733a30"), looks := true }, kinds := [], alts := [], laidByText := true, laidKinds := [.data, .data, .data, .handle, .sentinel, .sentinel], laidTests := true, laidLooks := .later }
def FnExactReadFractionUptoCardSaid : Prop := Claim7.holds Tryd.pinned (.plain (OpenSpec.upto fnExactReadFractionSpec)) fnExactReadFractionUptoCard
end Rows
end Go.Proofs.YtoppbeojmkbmcaaDoor
