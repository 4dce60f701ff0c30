/-
  DERIVED. GIVEN WITH THE SEED: THE CARDS: each row of YtniaelaolmjkaaaDoorRows.lean that lists a variable, with what it lists TIED to the program's text (the seventh form; the later family's looks); each row that meets fmt, with fmt's text TOLD by the authors' own Lean function (tested against real Go, not proved from fmt's source: count such statements apart). THE CARD IS WHAT COUNTS. Prove the row's statement (the work); the ties are given (YtniaelaolmjkaaaDoorTie.lean); close each card by the builder's one call (the guide's Derived/Test/ToyasCard.lean, 'card_holds'). Laid BY PROGRAM, IN A SANDBOX (cutbox-door.mjs). By AI agents, Wed Nov 11 2026. No macro, syntax, notation, axiom, sorry.
-/
import Derived.Test.YtniaelaolmjkaaaDoorRows
import GoSem.ClaimSeven
namespace Go.Proofs.YtniaelaolmjkaaaDoor
namespace Rows

/-- THE TIED CARD OF 'moneyerlaw10.FfxMasks'. -/
def ffxMasksCard : Claim7 := { stood := { row := ffxMasksRow, standIns := [], harness := (true, "f75138643da09fb113a6be98d8dfd04a1d88a6acd9ade58f36e9fa7e36d19d40"), looks := false }, kinds := [], alts := [], laidByText := true, laidKinds := [.data], laidTests := true, laidLooks := .later }
def FfxMasksCardSaid : Prop := Claim7.holds Tryd.pinned (.plain (OpenSpec.ofChange ffxMasksSpec)) ffxMasksCard

/-- THE TIED CARD OF 'moneyerlaw10.FfxBack'. -/
def ffxBackCard : Claim7 := { stood := { row := ffxBackRow, standIns := [], harness := (true, "f75138643da09fb113a6be98d8dfd04a1d88a6acd9ade58f36e9fa7e36d19d40"), looks := false }, kinds := [], alts := [], laidByText := true, laidKinds := [.data], laidTests := true, laidLooks := .later }
def FfxBackCardSaid : Prop := Claim7.holds Tryd.pinned (.plain (OpenSpec.ofChange ffxBackSpec)) ffxBackCard

/-- THE TIED CARD OF 'moneyerlaw10.FfxRounds'. -/
def ffxRoundsCard : Claim7 := { stood := { row := ffxRoundsRow, standIns := [], harness := (true, "f75138643da09fb113a6be98d8dfd04a1d88a6acd9ade58f36e9fa7e36d19d40"), looks := false }, kinds := [], alts := [], laidByText := true, laidKinds := [.data], laidTests := true, laidLooks := .later }
def FfxRoundsCardSaid : Prop := Claim7.holds Tryd.pinned (.plain (OpenSpec.ofChange ffxRoundsSpec)) ffxRoundsCard

/-- THE TIED CARD OF 'moneyerlaw10.FfxAgain'. -/
def ffxAgainCard : Claim7 := { stood := { row := ffxAgainRow, standIns := [], harness := (true, "f75138643da09fb113a6be98d8dfd04a1d88a6acd9ade58f36e9fa7e36d19d40"), looks := false }, kinds := [], alts := [], laidByText := true, laidKinds := [.data], laidTests := true, laidLooks := .later }
def FfxAgainCardSaid : Prop := Claim7.holds Tryd.pinned (.plain (OpenSpec.ofChange ffxAgainSpec)) ffxAgainCard

/-- THE SECOND FORM's CARD OF 'moneyerlaw10.FfxMasks'. -/
def ffxMasksUptoCard : Claim7 := { stood := { row := ffxMasksUptoRow, standIns := [], harness := (true, "f75138643da09fb113a6be98d8dfd04a1d88a6acd9ade58f36e9fa7e36d19d40"), looks := false }, kinds := [], alts := [], laidByText := true, laidKinds := [.data], laidTests := true, laidLooks := .later }
def FfxMasksUptoCardSaid : Prop := Claim7.holds Tryd.pinned (.plain (OpenSpec.upto ffxMasksSpec)) ffxMasksUptoCard

/-- THE SECOND FORM's CARD OF 'moneyerlaw10.FfxBack'. -/
def ffxBackUptoCard : Claim7 := { stood := { row := ffxBackUptoRow, standIns := [], harness := (true, "f75138643da09fb113a6be98d8dfd04a1d88a6acd9ade58f36e9fa7e36d19d40"), looks := false }, kinds := [], alts := [], laidByText := true, laidKinds := [.data], laidTests := true, laidLooks := .later }
def FfxBackUptoCardSaid : Prop := Claim7.holds Tryd.pinned (.plain (OpenSpec.upto ffxBackSpec)) ffxBackUptoCard

/-- THE SECOND FORM's CARD OF 'moneyerlaw10.FfxRounds'. -/
def ffxRoundsUptoCard : Claim7 := { stood := { row := ffxRoundsUptoRow, standIns := [], harness := (true, "f75138643da09fb113a6be98d8dfd04a1d88a6acd9ade58f36e9fa7e36d19d40"), looks := false }, kinds := [], alts := [], laidByText := true, laidKinds := [.data], laidTests := true, laidLooks := .later }
def FfxRoundsUptoCardSaid : Prop := Claim7.holds Tryd.pinned (.plain (OpenSpec.upto ffxRoundsSpec)) ffxRoundsUptoCard

/-- THE SECOND FORM's CARD OF 'moneyerlaw10.FfxAgain'. -/
def ffxAgainUptoCard : Claim7 := { stood := { row := ffxAgainUptoRow, standIns := [], harness := (true, "f75138643da09fb113a6be98d8dfd04a1d88a6acd9ade58f36e9fa7e36d19d40"), looks := false }, kinds := [], alts := [], laidByText := true, laidKinds := [.data], laidTests := true, laidLooks := .later }
def FfxAgainUptoCardSaid : Prop := Claim7.holds Tryd.pinned (.plain (OpenSpec.upto ffxAgainSpec)) ffxAgainUptoCard
end Rows
end Go.Proofs.YtniaelaolmjkaaaDoor
