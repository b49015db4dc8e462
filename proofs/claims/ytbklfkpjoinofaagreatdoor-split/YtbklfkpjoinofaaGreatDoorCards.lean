/-
  DERIVED. GIVEN WITH THE SEED: THE CARDS: each row of YtbklfkpjoinofaaGreatDoorRows.lean that lists a variable, with what it lists TIED to the program's text (the seventh form; the later family's looks); each row that meets fmt, with fmt's text TOLD by the authors' own Lean function (tested against real Go, not proved from fmt's source: count such statements apart). THE CARD IS WHAT COUNTS. Prove the row's statement (the work); the ties are given (YtbklfkpjoinofaaGreatDoorTie.lean); close each card by the builder's one call (the guide's Derived/Test/ToyasCard.lean, 'card_holds'). Laid BY PROGRAM, IN A SANDBOX (cutbox-door.mjs). By AI agents, Wed Nov 11 2026. No macro, syntax, notation, axiom, sorry.
-/
import Derived.Test.YtbklfkpjoinofaaGreatDoorRows
import GoSem.ClaimSeven
namespace Go.Proofs.YtbklfkpjoinofaaGreatDoor
namespace Rows

/-- THE TIED CARD OF 'presslaw.Writes'. -/
def writesCard : Claim7 := { stood := { row := writesRow, standIns := [], harness := (true, "6f23a07ef26eff294480315fab6ab153ebc03e445b1c759c3271c6735186f43d"), looks := true }, kinds := [], alts := [], laidByText := true, laidKinds := [.data, .data, .data, .data, .pinned], laidTests := true, laidLooks := .later }
def WritesCardSaid : Prop := Claim7.holds Tryz.pinned (.plain (OpenSpec.ofChange writesSpec)) writesCard

/-- THE TIED CARD OF 'presskeep.Failing'. -/
def failingCard : Claim7 := { stood := { row := failingRow, standIns := [], harness := (true, "6f23a07ef26eff294480315fab6ab153ebc03e445b1c759c3271c6735186f43d"), looks := true }, kinds := [], alts := [], laidByText := true, laidKinds := [.data, .data, .data, .data, .pinned], laidTests := true, laidLooks := .later }
def FailingCardSaid : Prop := Claim7.holds Tryz.pinned (.plain (OpenSpec.ofChange failingSpec)) failingCard

/-- THE TIED CARD OF 'presslaw.Reads'. -/
def readsCard : Claim7 := { stood := { row := readsRow, standIns := [], harness := (true, "6f23a07ef26eff294480315fab6ab153ebc03e445b1c759c3271c6735186f43d"), looks := true }, kinds := [], alts := [], laidByText := true, laidKinds := [.data, .data, .data, .data, .sentinel, .sentinel, .pinned], laidTests := true, laidLooks := .later }
def ReadsCardSaid : Prop := Claim7.holds Tryz.pinned (.plain (OpenSpec.ofChange readsSpec)) readsCard

/-- THE TIED CARD OF 'presskeep.Round'. -/
def roundCard : Claim7 := { stood := { row := roundRow, standIns := [], harness := (true, "6f23a07ef26eff294480315fab6ab153ebc03e445b1c759c3271c6735186f43d"), looks := true }, kinds := [], alts := [], laidByText := true, laidKinds := [.data, .data, .data, .data, .sentinel, .sentinel, .pinned], laidTests := true, laidLooks := .later }
def RoundCardSaid : Prop := Claim7.holds Tryz.pinned (.plain (OpenSpec.ofChange roundSpec)) roundCard

/-- THE TIED CARD OF 'presskeep.Split'. -/
def splitCard : Claim7 := { stood := { row := splitRow, standIns := [], harness := (true, "6f23a07ef26eff294480315fab6ab153ebc03e445b1c759c3271c6735186f43d"), looks := true }, kinds := [], alts := [], laidByText := true, laidKinds := [.data, .data, .data, .data, .sentinel, .sentinel, .pinned], laidTests := true, laidLooks := .later }
def SplitCardSaid : Prop := Claim7.holds Tryz.pinned (.plain (OpenSpec.ofChange splitSpec)) splitCard

/-- THE TIED CARD OF 'presskeep.Cut'. -/
def cutCard : Claim7 := { stood := { row := cutRow, standIns := [], harness := (true, "6f23a07ef26eff294480315fab6ab153ebc03e445b1c759c3271c6735186f43d"), looks := true }, kinds := [], alts := [], laidByText := true, laidKinds := [.data, .data, .data, .data, .sentinel, .sentinel, .pinned], laidTests := true, laidLooks := .later }
def CutCardSaid : Prop := Claim7.holds Tryz.pinned (.plain (OpenSpec.ofChange cutSpec)) cutCard

/-- THE TIED CARD OF 'presslaw.All'. -/
def allCard : Claim7 := { stood := { row := allRow, standIns := [], harness := (true, "6f23a07ef26eff294480315fab6ab153ebc03e445b1c759c3271c6735186f43d"), looks := true }, kinds := [], alts := [], laidByText := true, laidKinds := [.data, .data, .data, .data, .sentinel, .sentinel, .pinned], laidTests := true, laidLooks := .later }
def AllCardSaid : Prop := Claim7.holds Tryz.pinned (.plain (OpenSpec.ofChange allSpec)) allCard

/-- THE SECOND FORM's CARD OF 'presslaw.Writes'. -/
def writesUptoCard : Claim7 := { stood := { row := writesUptoRow, standIns := [], harness := (true, "6f23a07ef26eff294480315fab6ab153ebc03e445b1c759c3271c6735186f43d"), looks := true }, kinds := [], alts := [], laidByText := true, laidKinds := [.data, .data, .data, .data, .pinned], laidTests := true, laidLooks := .later }
def WritesUptoCardSaid : Prop := Claim7.holds Tryz.pinned (.plain (OpenSpec.upto writesSpec)) writesUptoCard

/-- THE SECOND FORM's CARD OF 'presskeep.Failing'. -/
def failingUptoCard : Claim7 := { stood := { row := failingUptoRow, standIns := [], harness := (true, "6f23a07ef26eff294480315fab6ab153ebc03e445b1c759c3271c6735186f43d"), looks := true }, kinds := [], alts := [], laidByText := true, laidKinds := [.data, .data, .data, .data, .pinned], laidTests := true, laidLooks := .later }
def FailingUptoCardSaid : Prop := Claim7.holds Tryz.pinned (.plain (OpenSpec.upto failingSpec)) failingUptoCard

/-- THE SECOND FORM's CARD OF 'presslaw.Reads'. -/
def readsUptoCard : Claim7 := { stood := { row := readsUptoRow, standIns := [], harness := (true, "6f23a07ef26eff294480315fab6ab153ebc03e445b1c759c3271c6735186f43d"), looks := true }, kinds := [], alts := [], laidByText := true, laidKinds := [.data, .data, .data, .data, .sentinel, .sentinel, .pinned], laidTests := true, laidLooks := .later }
def ReadsUptoCardSaid : Prop := Claim7.holds Tryz.pinned (.plain (OpenSpec.upto readsSpec)) readsUptoCard

/-- THE SECOND FORM's CARD OF 'presskeep.Round'. -/
def roundUptoCard : Claim7 := { stood := { row := roundUptoRow, standIns := [], harness := (true, "6f23a07ef26eff294480315fab6ab153ebc03e445b1c759c3271c6735186f43d"), looks := true }, kinds := [], alts := [], laidByText := true, laidKinds := [.data, .data, .data, .data, .sentinel, .sentinel, .pinned], laidTests := true, laidLooks := .later }
def RoundUptoCardSaid : Prop := Claim7.holds Tryz.pinned (.plain (OpenSpec.upto roundSpec)) roundUptoCard

/-- THE SECOND FORM's CARD OF 'presskeep.Split'. -/
def splitUptoCard : Claim7 := { stood := { row := splitUptoRow, standIns := [], harness := (true, "6f23a07ef26eff294480315fab6ab153ebc03e445b1c759c3271c6735186f43d"), looks := true }, kinds := [], alts := [], laidByText := true, laidKinds := [.data, .data, .data, .data, .sentinel, .sentinel, .pinned], laidTests := true, laidLooks := .later }
def SplitUptoCardSaid : Prop := Claim7.holds Tryz.pinned (.plain (OpenSpec.upto splitSpec)) splitUptoCard

/-- THE SECOND FORM's CARD OF 'presskeep.Cut'. -/
def cutUptoCard : Claim7 := { stood := { row := cutUptoRow, standIns := [], harness := (true, "6f23a07ef26eff294480315fab6ab153ebc03e445b1c759c3271c6735186f43d"), looks := true }, kinds := [], alts := [], laidByText := true, laidKinds := [.data, .data, .data, .data, .sentinel, .sentinel, .pinned], laidTests := true, laidLooks := .later }
def CutUptoCardSaid : Prop := Claim7.holds Tryz.pinned (.plain (OpenSpec.upto cutSpec)) cutUptoCard

/-- THE SECOND FORM's CARD OF 'presslaw.All'. -/
def allUptoCard : Claim7 := { stood := { row := allUptoRow, standIns := [], harness := (true, "6f23a07ef26eff294480315fab6ab153ebc03e445b1c759c3271c6735186f43d"), looks := true }, kinds := [], alts := [], laidByText := true, laidKinds := [.data, .data, .data, .data, .sentinel, .sentinel, .pinned], laidTests := true, laidLooks := .later }
def AllUptoCardSaid : Prop := Claim7.holds Tryz.pinned (.plain (OpenSpec.upto allSpec)) allUptoCard
end Rows
end Go.Proofs.YtbklfkpjoinofaaGreatDoor
