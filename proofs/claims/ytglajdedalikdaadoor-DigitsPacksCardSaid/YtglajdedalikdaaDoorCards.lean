/-
  DERIVED. GIVEN WITH THE SEED: THE CARDS: each row of YtglajdedalikdaaDoorRows.lean that lists a variable, with what it lists TIED to the program's text (the seventh form; the later family's looks); each row that meets fmt, with fmt's text TOLD by the authors' own Lean function (tested against real Go, not proved from fmt's source: count such statements apart). THE CARD IS WHAT COUNTS. Prove the row's statement (the work); the ties are given (YtglajdedalikdaaDoorTie.lean); close each card by the builder's one call (the guide's Derived/Test/ToyasCard.lean, 'card_holds'). Laid BY PROGRAM, IN A SANDBOX (cutbox-door.mjs). By AI agents, Wed Nov 11 2026. No macro, syntax, notation, axiom, sorry.
-/
import Derived.Test.YtglajdedalikdaaDoorRows
import GoSem.ClaimSeven
namespace Go.Proofs.YtglajdedalikdaaDoor
namespace Rows

/-- THE TIED CARD OF 'moneyerlaw01.DigitsPacks'. -/
def digitsPacksCard : Claim7 := { stood := { row := digitsPacksRow, standIns := [], harness := (true, "1c269fb54f049484a2682290e8eb262615208a4b80acc46b8484759fcfca0339"), looks := false }, kinds := [], alts := [], laidByText := true, laidKinds := [.data], laidTests := true, laidLooks := .later }
def DigitsPacksCardSaid : Prop := Claim7.holds Tryd.pinned (.plain (OpenSpec.ofChange digitsPacksSpec)) digitsPacksCard

/-- THE TIED CARD OF 'moneyerlaw01.DigitsChecks'. -/
def digitsChecksCard : Claim7 := { stood := { row := digitsChecksRow, standIns := [], harness := (true, "1c269fb54f049484a2682290e8eb262615208a4b80acc46b8484759fcfca0339"), looks := false }, kinds := [], alts := [], laidByText := true, laidKinds := [.data], laidTests := true, laidLooks := .later }
def DigitsChecksCardSaid : Prop := Claim7.holds Tryd.pinned (.plain (OpenSpec.ofChange digitsChecksSpec)) digitsChecksCard

/-- THE TIED CARD OF 'moneyerlaw01.DigitsNumbers'. -/
def digitsNumbersCard : Claim7 := { stood := { row := digitsNumbersRow, standIns := [], harness := (true, "1c269fb54f049484a2682290e8eb262615208a4b80acc46b8484759fcfca0339"), looks := false }, kinds := [], alts := [], laidByText := true, laidKinds := [.data], laidTests := true, laidLooks := .later }
def DigitsNumbersCardSaid : Prop := Claim7.holds Tryd.pinned (.plain (OpenSpec.ofChange digitsNumbersSpec)) digitsNumbersCard

/-- THE TIED CARD OF 'moneyerlaw01.DigitsBack'. -/
def digitsBackCard : Claim7 := { stood := { row := digitsBackRow, standIns := [], harness := (true, "1c269fb54f049484a2682290e8eb262615208a4b80acc46b8484759fcfca0339"), looks := false }, kinds := [], alts := [], laidByText := true, laidKinds := [.data], laidTests := true, laidLooks := .later }
def DigitsBackCardSaid : Prop := Claim7.holds Tryd.pinned (.plain (OpenSpec.ofChange digitsBackSpec)) digitsBackCard

/-- THE TIED CARD OF 'moneyerlaw01.DigitsTurned'. -/
def digitsTurnedCard : Claim7 := { stood := { row := digitsTurnedRow, standIns := [], harness := (true, "1c269fb54f049484a2682290e8eb262615208a4b80acc46b8484759fcfca0339"), looks := false }, kinds := [], alts := [], laidByText := true, laidKinds := [.data], laidTests := true, laidLooks := .later }
def DigitsTurnedCardSaid : Prop := Claim7.holds Tryd.pinned (.plain (OpenSpec.ofChange digitsTurnedSpec)) digitsTurnedCard

/-- THE TIED CARD OF 'moneyerlaw01.DigitsEnds'. -/
def digitsEndsCard : Claim7 := { stood := { row := digitsEndsRow, standIns := [], harness := (true, "1c269fb54f049484a2682290e8eb262615208a4b80acc46b8484759fcfca0339"), looks := false }, kinds := [], alts := [], laidByText := true, laidKinds := [.data], laidTests := true, laidLooks := .later }
def DigitsEndsCardSaid : Prop := Claim7.holds Tryd.pinned (.plain (OpenSpec.ofChange digitsEndsSpec)) digitsEndsCard

/-- THE SECOND FORM's CARD OF 'moneyerlaw01.DigitsPacks'. -/
def digitsPacksUptoCard : Claim7 := { stood := { row := digitsPacksUptoRow, standIns := [], harness := (true, "1c269fb54f049484a2682290e8eb262615208a4b80acc46b8484759fcfca0339"), looks := false }, kinds := [], alts := [], laidByText := true, laidKinds := [.data], laidTests := true, laidLooks := .later }
def DigitsPacksUptoCardSaid : Prop := Claim7.holds Tryd.pinned (.plain (OpenSpec.upto digitsPacksSpec)) digitsPacksUptoCard

/-- THE SECOND FORM's CARD OF 'moneyerlaw01.DigitsChecks'. -/
def digitsChecksUptoCard : Claim7 := { stood := { row := digitsChecksUptoRow, standIns := [], harness := (true, "1c269fb54f049484a2682290e8eb262615208a4b80acc46b8484759fcfca0339"), looks := false }, kinds := [], alts := [], laidByText := true, laidKinds := [.data], laidTests := true, laidLooks := .later }
def DigitsChecksUptoCardSaid : Prop := Claim7.holds Tryd.pinned (.plain (OpenSpec.upto digitsChecksSpec)) digitsChecksUptoCard

/-- THE SECOND FORM's CARD OF 'moneyerlaw01.DigitsNumbers'. -/
def digitsNumbersUptoCard : Claim7 := { stood := { row := digitsNumbersUptoRow, standIns := [], harness := (true, "1c269fb54f049484a2682290e8eb262615208a4b80acc46b8484759fcfca0339"), looks := false }, kinds := [], alts := [], laidByText := true, laidKinds := [.data], laidTests := true, laidLooks := .later }
def DigitsNumbersUptoCardSaid : Prop := Claim7.holds Tryd.pinned (.plain (OpenSpec.upto digitsNumbersSpec)) digitsNumbersUptoCard

/-- THE SECOND FORM's CARD OF 'moneyerlaw01.DigitsBack'. -/
def digitsBackUptoCard : Claim7 := { stood := { row := digitsBackUptoRow, standIns := [], harness := (true, "1c269fb54f049484a2682290e8eb262615208a4b80acc46b8484759fcfca0339"), looks := false }, kinds := [], alts := [], laidByText := true, laidKinds := [.data], laidTests := true, laidLooks := .later }
def DigitsBackUptoCardSaid : Prop := Claim7.holds Tryd.pinned (.plain (OpenSpec.upto digitsBackSpec)) digitsBackUptoCard

/-- THE SECOND FORM's CARD OF 'moneyerlaw01.DigitsTurned'. -/
def digitsTurnedUptoCard : Claim7 := { stood := { row := digitsTurnedUptoRow, standIns := [], harness := (true, "1c269fb54f049484a2682290e8eb262615208a4b80acc46b8484759fcfca0339"), looks := false }, kinds := [], alts := [], laidByText := true, laidKinds := [.data], laidTests := true, laidLooks := .later }
def DigitsTurnedUptoCardSaid : Prop := Claim7.holds Tryd.pinned (.plain (OpenSpec.upto digitsTurnedSpec)) digitsTurnedUptoCard

/-- THE SECOND FORM's CARD OF 'moneyerlaw01.DigitsEnds'. -/
def digitsEndsUptoCard : Claim7 := { stood := { row := digitsEndsUptoRow, standIns := [], harness := (true, "1c269fb54f049484a2682290e8eb262615208a4b80acc46b8484759fcfca0339"), looks := false }, kinds := [], alts := [], laidByText := true, laidKinds := [.data], laidTests := true, laidLooks := .later }
def DigitsEndsUptoCardSaid : Prop := Claim7.holds Tryd.pinned (.plain (OpenSpec.upto digitsEndsSpec)) digitsEndsUptoCard
end Rows
end Go.Proofs.YtglajdedalikdaaDoor
