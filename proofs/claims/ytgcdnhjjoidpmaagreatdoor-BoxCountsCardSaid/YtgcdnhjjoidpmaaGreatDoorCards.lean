/-
  DERIVED. GIVEN WITH THE SEED: THE CARDS: each row of YtgcdnhjjoidpmaaGreatDoorRows.lean that lists a variable, with what it lists TIED to the program's text (the seventh form; the later family's looks); each row that meets fmt, with fmt's text TOLD by the authors' own Lean function (tested against real Go, not proved from fmt's source: count such statements apart). THE CARD IS WHAT COUNTS. Prove the row's statement (the work); the ties are given (YtgcdnhjjoidpmaaGreatDoorTie.lean); close each card by the builder's one call (the guide's Derived/Test/ToyasCard.lean, 'card_holds'). Laid BY PROGRAM, IN A SANDBOX (cutbox-door.mjs). By AI agents, Wed Nov 11 2026. No macro, syntax, notation, axiom, sorry.
-/
import Derived.Test.YtgcdnhjjoidpmaaGreatDoorRows
import GoSem.ClaimSeven
namespace Go.Proofs.YtgcdnhjjoidpmaaGreatDoor
namespace Rows

/-- THE TIED CARD OF 'moneyerlaw08.BoxSeals'. -/
def boxSealsCard : Claim7 := { stood := { row := boxSealsRow, standIns := [], harness := (true, "24c7e9303046b4549607b323384d98b1bfe9baca164194b533b0eac1edb49f8a"), looks := false }, kinds := [], alts := [], laidByText := true, laidKinds := [.data, .data], laidTests := true, laidLooks := .later }
def BoxSealsCardSaid : Prop := Claim7.holds Tryz.pinned (.plain (OpenSpec.ofChange boxSealsSpec)) boxSealsCard

/-- THE TIED CARD OF 'moneyerlaw08.BoxOpens'. -/
def boxOpensCard : Claim7 := { stood := { row := boxOpensRow, standIns := [], harness := (true, "24c7e9303046b4549607b323384d98b1bfe9baca164194b533b0eac1edb49f8a"), looks := false }, kinds := [], alts := [], laidByText := true, laidKinds := [.data, .data], laidTests := true, laidLooks := .later }
def BoxOpensCardSaid : Prop := Claim7.holds Tryz.pinned (.plain (OpenSpec.ofChange boxOpensSpec)) boxOpensCard

/-- THE TIED CARD OF 'moneyerlaw08.BoxCounts'. -/
def boxCountsCard : Claim7 := { stood := { row := boxCountsRow, standIns := [], harness := (true, "24c7e9303046b4549607b323384d98b1bfe9baca164194b533b0eac1edb49f8a"), looks := false }, kinds := [], alts := [], laidByText := true, laidKinds := [.data, .data], laidTests := true, laidLooks := .later }
def BoxCountsCardSaid : Prop := Claim7.holds Tryz.pinned (.plain (OpenSpec.ofChange boxCountsSpec)) boxCountsCard

/-- THE SECOND FORM's CARD OF 'moneyerlaw08.BoxSeals'. -/
def boxSealsUptoCard : Claim7 := { stood := { row := boxSealsUptoRow, standIns := [], harness := (true, "24c7e9303046b4549607b323384d98b1bfe9baca164194b533b0eac1edb49f8a"), looks := false }, kinds := [], alts := [], laidByText := true, laidKinds := [.data, .data], laidTests := true, laidLooks := .later }
def BoxSealsUptoCardSaid : Prop := Claim7.holds Tryz.pinned (.plain (OpenSpec.upto boxSealsSpec)) boxSealsUptoCard

/-- THE SECOND FORM's CARD OF 'moneyerlaw08.BoxOpens'. -/
def boxOpensUptoCard : Claim7 := { stood := { row := boxOpensUptoRow, standIns := [], harness := (true, "24c7e9303046b4549607b323384d98b1bfe9baca164194b533b0eac1edb49f8a"), looks := false }, kinds := [], alts := [], laidByText := true, laidKinds := [.data, .data], laidTests := true, laidLooks := .later }
def BoxOpensUptoCardSaid : Prop := Claim7.holds Tryz.pinned (.plain (OpenSpec.upto boxOpensSpec)) boxOpensUptoCard

/-- THE SECOND FORM's CARD OF 'moneyerlaw08.BoxCounts'. -/
def boxCountsUptoCard : Claim7 := { stood := { row := boxCountsUptoRow, standIns := [], harness := (true, "24c7e9303046b4549607b323384d98b1bfe9baca164194b533b0eac1edb49f8a"), looks := false }, kinds := [], alts := [], laidByText := true, laidKinds := [.data, .data], laidTests := true, laidLooks := .later }
def BoxCountsUptoCardSaid : Prop := Claim7.holds Tryz.pinned (.plain (OpenSpec.upto boxCountsSpec)) boxCountsUptoCard
end Rows
end Go.Proofs.YtgcdnhjjoidpmaaGreatDoor
