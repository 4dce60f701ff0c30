/-
  DERIVED. GIVEN WITH THE SEED: THE CARDS: each row of YtphbhfilaknbfaaDoorRows.lean that lists a variable, with what it lists TIED to the program's text (the seventh form; the later family's looks); each row that meets fmt, with fmt's text TOLD by the authors' own Lean function (tested against real Go, not proved from fmt's source: count such statements apart). THE CARD IS WHAT COUNTS. Prove the row's statement (the work); the ties are given (YtphbhfilaknbfaaDoorTie.lean); close each card by the builder's one call (the guide's Derived/Test/ToyasCard.lean, 'card_holds'). Laid BY PROGRAM, IN A SANDBOX (cutbox-door.mjs). By AI agents, Wed Nov 11 2026. No macro, syntax, notation, axiom, sorry.
-/
import Derived.Test.YtphbhfilaknbfaaDoorRows
import GoSem.ClaimSeven
namespace Go.Proofs.YtphbhfilaknbfaaDoor
namespace Rows

/-- THE TIED CARD OF 'moneyerlaw02.CheckSums'. -/
def checkSumsCard : Claim7 := { stood := { row := checkSumsRow, standIns := [], harness := (true, "2881b0695a05753697ceda49d3159600fbcd0cd12958c1308d2f9f090d45465d"), looks := false }, kinds := [], alts := [], laidByText := true, laidKinds := [.data], laidTests := true, laidLooks := .later }
def CheckSumsCardSaid : Prop := Claim7.holds Tryd.pinned (.plain (OpenSpec.ofChange checkSumsSpec)) checkSumsCard

/-- THE TIED CARD OF 'moneyerlaw02.CheckSectors'. -/
def checkSectorsCard : Claim7 := { stood := { row := checkSectorsRow, standIns := [], harness := (true, "2881b0695a05753697ceda49d3159600fbcd0cd12958c1308d2f9f090d45465d"), looks := false }, kinds := [], alts := [], laidByText := true, laidKinds := [.data], laidTests := true, laidLooks := .later }
def CheckSectorsCardSaid : Prop := Claim7.holds Tryd.pinned (.plain (OpenSpec.ofChange checkSectorsSpec)) checkSectorsCard

/-- THE TIED CARD OF 'moneyerlaw02.CheckBack'. -/
def checkBackCard : Claim7 := { stood := { row := checkBackRow, standIns := [], harness := (true, "2881b0695a05753697ceda49d3159600fbcd0cd12958c1308d2f9f090d45465d"), looks := false }, kinds := [], alts := [], laidByText := true, laidKinds := [.data], laidTests := true, laidLooks := .later }
def CheckBackCardSaid : Prop := Claim7.holds Tryd.pinned (.plain (OpenSpec.ofChange checkBackSpec)) checkBackCard

/-- THE TIED CARD OF 'moneyerlaw02.CheckTurned'. -/
def checkTurnedCard : Claim7 := { stood := { row := checkTurnedRow, standIns := [], harness := (true, "2881b0695a05753697ceda49d3159600fbcd0cd12958c1308d2f9f090d45465d"), looks := false }, kinds := [], alts := [], laidByText := true, laidKinds := [.data], laidTests := true, laidLooks := .later }
def CheckTurnedCardSaid : Prop := Claim7.holds Tryd.pinned (.plain (OpenSpec.ofChange checkTurnedSpec)) checkTurnedCard

/-- THE TIED CARD OF 'moneyerlaw02.CheckAffine'. -/
def checkAffineCard : Claim7 := { stood := { row := checkAffineRow, standIns := [], harness := (true, "2881b0695a05753697ceda49d3159600fbcd0cd12958c1308d2f9f090d45465d"), looks := false }, kinds := [], alts := [], laidByText := true, laidKinds := [.data], laidTests := true, laidLooks := .later }
def CheckAffineCardSaid : Prop := Claim7.holds Tryd.pinned (.plain (OpenSpec.ofChange checkAffineSpec)) checkAffineCard

/-- THE TIED CARD OF 'moneyerlaw02.CheckCuts'. -/
def checkCutsCard : Claim7 := { stood := { row := checkCutsRow, standIns := [], harness := (true, "2881b0695a05753697ceda49d3159600fbcd0cd12958c1308d2f9f090d45465d"), looks := false }, kinds := [], alts := [], laidByText := true, laidKinds := [.data], laidTests := true, laidLooks := .later }
def CheckCutsCardSaid : Prop := Claim7.holds Tryd.pinned (.plain (OpenSpec.ofChange checkCutsSpec)) checkCutsCard

/-- THE SECOND FORM's CARD OF 'moneyerlaw02.CheckSums'. -/
def checkSumsUptoCard : Claim7 := { stood := { row := checkSumsUptoRow, standIns := [], harness := (true, "2881b0695a05753697ceda49d3159600fbcd0cd12958c1308d2f9f090d45465d"), looks := false }, kinds := [], alts := [], laidByText := true, laidKinds := [.data], laidTests := true, laidLooks := .later }
def CheckSumsUptoCardSaid : Prop := Claim7.holds Tryd.pinned (.plain (OpenSpec.upto checkSumsSpec)) checkSumsUptoCard

/-- THE SECOND FORM's CARD OF 'moneyerlaw02.CheckSectors'. -/
def checkSectorsUptoCard : Claim7 := { stood := { row := checkSectorsUptoRow, standIns := [], harness := (true, "2881b0695a05753697ceda49d3159600fbcd0cd12958c1308d2f9f090d45465d"), looks := false }, kinds := [], alts := [], laidByText := true, laidKinds := [.data], laidTests := true, laidLooks := .later }
def CheckSectorsUptoCardSaid : Prop := Claim7.holds Tryd.pinned (.plain (OpenSpec.upto checkSectorsSpec)) checkSectorsUptoCard

/-- THE SECOND FORM's CARD OF 'moneyerlaw02.CheckBack'. -/
def checkBackUptoCard : Claim7 := { stood := { row := checkBackUptoRow, standIns := [], harness := (true, "2881b0695a05753697ceda49d3159600fbcd0cd12958c1308d2f9f090d45465d"), looks := false }, kinds := [], alts := [], laidByText := true, laidKinds := [.data], laidTests := true, laidLooks := .later }
def CheckBackUptoCardSaid : Prop := Claim7.holds Tryd.pinned (.plain (OpenSpec.upto checkBackSpec)) checkBackUptoCard

/-- THE SECOND FORM's CARD OF 'moneyerlaw02.CheckTurned'. -/
def checkTurnedUptoCard : Claim7 := { stood := { row := checkTurnedUptoRow, standIns := [], harness := (true, "2881b0695a05753697ceda49d3159600fbcd0cd12958c1308d2f9f090d45465d"), looks := false }, kinds := [], alts := [], laidByText := true, laidKinds := [.data], laidTests := true, laidLooks := .later }
def CheckTurnedUptoCardSaid : Prop := Claim7.holds Tryd.pinned (.plain (OpenSpec.upto checkTurnedSpec)) checkTurnedUptoCard

/-- THE SECOND FORM's CARD OF 'moneyerlaw02.CheckAffine'. -/
def checkAffineUptoCard : Claim7 := { stood := { row := checkAffineUptoRow, standIns := [], harness := (true, "2881b0695a05753697ceda49d3159600fbcd0cd12958c1308d2f9f090d45465d"), looks := false }, kinds := [], alts := [], laidByText := true, laidKinds := [.data], laidTests := true, laidLooks := .later }
def CheckAffineUptoCardSaid : Prop := Claim7.holds Tryd.pinned (.plain (OpenSpec.upto checkAffineSpec)) checkAffineUptoCard

/-- THE SECOND FORM's CARD OF 'moneyerlaw02.CheckCuts'. -/
def checkCutsUptoCard : Claim7 := { stood := { row := checkCutsUptoRow, standIns := [], harness := (true, "2881b0695a05753697ceda49d3159600fbcd0cd12958c1308d2f9f090d45465d"), looks := false }, kinds := [], alts := [], laidByText := true, laidKinds := [.data], laidTests := true, laidLooks := .later }
def CheckCutsUptoCardSaid : Prop := Claim7.holds Tryd.pinned (.plain (OpenSpec.upto checkCutsSpec)) checkCutsUptoCard
end Rows
end Go.Proofs.YtphbhfilaknbfaaDoor
