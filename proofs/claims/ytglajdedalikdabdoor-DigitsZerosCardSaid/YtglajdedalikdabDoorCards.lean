/-
  DERIVED. GIVEN WITH THE SEED: THE CARDS: each row of YtglajdedalikdabDoorRows.lean that lists a variable, with what it lists TIED to the program's text (the seventh form; the later family's looks); each row that meets fmt, with fmt's text TOLD by the authors' own Lean function (tested against real Go, not proved from fmt's source: count such statements apart). THE CARD IS WHAT COUNTS. Prove the row's statement (the work); the ties are given (YtglajdedalikdabDoorTie.lean); close each card by the builder's one call (the guide's Derived/Test/ToyasCard.lean, 'card_holds'). Laid BY PROGRAM, IN A SANDBOX (cutbox-door.mjs). By AI agents, Wed Nov 11 2026. No macro, syntax, notation, axiom, sorry.
-/
import Derived.Test.YtglajdedalikdabDoorRows
import GoSem.ClaimSeven
namespace Go.Proofs.YtglajdedalikdabDoor
namespace Rows

/-- THE TIED CARD OF 'moneyerlaw01.DigitsZeros'. -/
def digitsZerosCard : Claim7 := { stood := { row := digitsZerosRow, standIns := [], harness := (true, "767a572a6112ed98cf03179b0567d49eeb5f31e68c5cc84dae434e1b1ac0c447"), looks := false }, kinds := [], alts := [], laidByText := true, laidKinds := [.data], laidTests := true, laidLooks := .later }
def DigitsZerosCardSaid : Prop := Claim7.holds Tryd.pinned (.plain (OpenSpec.ofChange digitsZerosSpec)) digitsZerosCard

/-- THE TIED CARD OF 'moneyerlaw01.DigitsLast'. -/
def digitsLastCard : Claim7 := { stood := { row := digitsLastRow, standIns := [], harness := (true, "767a572a6112ed98cf03179b0567d49eeb5f31e68c5cc84dae434e1b1ac0c447"), looks := false }, kinds := [], alts := [], laidByText := true, laidKinds := [.data], laidTests := true, laidLooks := .later }
def DigitsLastCardSaid : Prop := Claim7.holds Tryd.pinned (.plain (OpenSpec.ofChange digitsLastSpec)) digitsLastCard

/-- THE SECOND FORM's CARD OF 'moneyerlaw01.DigitsZeros'. -/
def digitsZerosUptoCard : Claim7 := { stood := { row := digitsZerosUptoRow, standIns := [], harness := (true, "767a572a6112ed98cf03179b0567d49eeb5f31e68c5cc84dae434e1b1ac0c447"), looks := false }, kinds := [], alts := [], laidByText := true, laidKinds := [.data], laidTests := true, laidLooks := .later }
def DigitsZerosUptoCardSaid : Prop := Claim7.holds Tryd.pinned (.plain (OpenSpec.upto digitsZerosSpec)) digitsZerosUptoCard

/-- THE SECOND FORM's CARD OF 'moneyerlaw01.DigitsLast'. -/
def digitsLastUptoCard : Claim7 := { stood := { row := digitsLastUptoRow, standIns := [], harness := (true, "767a572a6112ed98cf03179b0567d49eeb5f31e68c5cc84dae434e1b1ac0c447"), looks := false }, kinds := [], alts := [], laidByText := true, laidKinds := [.data], laidTests := true, laidLooks := .later }
def DigitsLastUptoCardSaid : Prop := Claim7.holds Tryd.pinned (.plain (OpenSpec.upto digitsLastSpec)) digitsLastUptoCard
end Rows
end Go.Proofs.YtglajdedalikdabDoor
