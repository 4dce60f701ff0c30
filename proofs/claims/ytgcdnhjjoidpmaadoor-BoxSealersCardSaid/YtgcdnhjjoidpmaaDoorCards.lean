/-
  DERIVED. GIVEN WITH THE SEED: THE CARDS: each row of YtgcdnhjjoidpmaaDoorRows.lean that lists a variable, with what it lists TIED to the program's text (the seventh form; the later family's looks); each row that meets fmt, with fmt's text TOLD by the authors' own Lean function (tested against real Go, not proved from fmt's source: count such statements apart). THE CARD IS WHAT COUNTS. Prove the row's statement (the work); the ties are given (YtgcdnhjjoidpmaaDoorTie.lean); close each card by the builder's one call (the guide's Derived/Test/ToyasCard.lean, 'card_holds'). Laid BY PROGRAM, IN A SANDBOX (cutbox-door.mjs). By AI agents, Wed Nov 11 2026. No macro, syntax, notation, axiom, sorry.
-/
import Derived.Test.YtgcdnhjjoidpmaaDoorRows
import GoSem.ClaimSeven
namespace Go.Proofs.YtgcdnhjjoidpmaaDoor
namespace Rows

/-- THE TIED CARD OF 'moneyerlaw08.BoxBack'. -/
def boxBackCard : Claim7 := { stood := { row := boxBackRow, standIns := [], harness := (true, "af277edc41f83fd798ed1fbbb73e01a049ccddc2d7bfb56ee05f65e8132d6488"), looks := false }, kinds := [], alts := [], laidByText := true, laidKinds := [.data, .data], laidTests := true, laidLooks := .later }
def BoxBackCardSaid : Prop := Claim7.holds Tryd.pinned (.plain (OpenSpec.ofChange boxBackSpec)) boxBackCard

/-- THE TIED CARD OF 'moneyerlaw08.BoxSealers'. -/
def boxSealersCard : Claim7 := { stood := { row := boxSealersRow, standIns := [], harness := (true, "af277edc41f83fd798ed1fbbb73e01a049ccddc2d7bfb56ee05f65e8132d6488"), looks := false }, kinds := [], alts := [], laidByText := true, laidKinds := [.data, .data], laidTests := true, laidLooks := .later }
def BoxSealersCardSaid : Prop := Claim7.holds Tryd.pinned (.plain (OpenSpec.ofChange boxSealersSpec)) boxSealersCard

/-- THE TIED CARD OF 'moneyerlaw08.BoxCut'. -/
def boxCutCard : Claim7 := { stood := { row := boxCutRow, standIns := [], harness := (true, "af277edc41f83fd798ed1fbbb73e01a049ccddc2d7bfb56ee05f65e8132d6488"), looks := false }, kinds := [], alts := [], laidByText := true, laidKinds := [.data, .data], laidTests := true, laidLooks := .later }
def BoxCutCardSaid : Prop := Claim7.holds Tryd.pinned (.plain (OpenSpec.ofChange boxCutSpec)) boxCutCard

/-- THE SECOND FORM's CARD OF 'moneyerlaw08.BoxBack'. -/
def boxBackUptoCard : Claim7 := { stood := { row := boxBackUptoRow, standIns := [], harness := (true, "af277edc41f83fd798ed1fbbb73e01a049ccddc2d7bfb56ee05f65e8132d6488"), looks := false }, kinds := [], alts := [], laidByText := true, laidKinds := [.data, .data], laidTests := true, laidLooks := .later }
def BoxBackUptoCardSaid : Prop := Claim7.holds Tryd.pinned (.plain (OpenSpec.upto boxBackSpec)) boxBackUptoCard

/-- THE SECOND FORM's CARD OF 'moneyerlaw08.BoxSealers'. -/
def boxSealersUptoCard : Claim7 := { stood := { row := boxSealersUptoRow, standIns := [], harness := (true, "af277edc41f83fd798ed1fbbb73e01a049ccddc2d7bfb56ee05f65e8132d6488"), looks := false }, kinds := [], alts := [], laidByText := true, laidKinds := [.data, .data], laidTests := true, laidLooks := .later }
def BoxSealersUptoCardSaid : Prop := Claim7.holds Tryd.pinned (.plain (OpenSpec.upto boxSealersSpec)) boxSealersUptoCard

/-- THE SECOND FORM's CARD OF 'moneyerlaw08.BoxCut'. -/
def boxCutUptoCard : Claim7 := { stood := { row := boxCutUptoRow, standIns := [], harness := (true, "af277edc41f83fd798ed1fbbb73e01a049ccddc2d7bfb56ee05f65e8132d6488"), looks := false }, kinds := [], alts := [], laidByText := true, laidKinds := [.data, .data], laidTests := true, laidLooks := .later }
def BoxCutUptoCardSaid : Prop := Claim7.holds Tryd.pinned (.plain (OpenSpec.upto boxCutSpec)) boxCutUptoCard
end Rows
end Go.Proofs.YtgcdnhjjoidpmaaDoor
