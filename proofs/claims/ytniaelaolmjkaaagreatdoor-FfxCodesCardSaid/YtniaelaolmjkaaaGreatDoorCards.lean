/-
  DERIVED. GIVEN WITH THE SEED: THE CARDS: each row of YtniaelaolmjkaaaGreatDoorRows.lean that lists a variable, with what it lists TIED to the program's text (the seventh form; the later family's looks); each row that meets fmt, with fmt's text TOLD by the authors' own Lean function (tested against real Go, not proved from fmt's source: count such statements apart). THE CARD IS WHAT COUNTS. Prove the row's statement (the work); the ties are given (YtniaelaolmjkaaaGreatDoorTie.lean); close each card by the builder's one call (the guide's Derived/Test/ToyasCard.lean, 'card_holds'). Laid BY PROGRAM, IN A SANDBOX (cutbox-door.mjs). By AI agents, Wed Nov 11 2026. No macro, syntax, notation, axiom, sorry.
-/
import Derived.Test.YtniaelaolmjkaaaGreatDoorRows
import GoSem.ClaimSeven
namespace Go.Proofs.YtniaelaolmjkaaaGreatDoor
namespace Rows

/-- THE TIED CARD OF 'moneyerlaw10.FfxCodes'. -/
def ffxCodesCard : Claim7 := { stood := { row := ffxCodesRow, standIns := [], harness := (true, "886f27bacd7f0e0b6862e6fb3fcae392d61991999dc45224e5c71c10036a6484"), looks := false }, kinds := [], alts := [], laidByText := true, laidKinds := [.data], laidTests := true, laidLooks := .later }
def FfxCodesCardSaid : Prop := Claim7.holds Tryz.pinned (.plain (OpenSpec.ofChange ffxCodesSpec)) ffxCodesCard

/-- THE SECOND FORM's CARD OF 'moneyerlaw10.FfxCodes'. -/
def ffxCodesUptoCard : Claim7 := { stood := { row := ffxCodesUptoRow, standIns := [], harness := (true, "886f27bacd7f0e0b6862e6fb3fcae392d61991999dc45224e5c71c10036a6484"), looks := false }, kinds := [], alts := [], laidByText := true, laidKinds := [.data], laidTests := true, laidLooks := .later }
def FfxCodesUptoCardSaid : Prop := Claim7.holds Tryz.pinned (.plain (OpenSpec.upto ffxCodesSpec)) ffxCodesUptoCard
end Rows
end Go.Proofs.YtniaelaolmjkaaaGreatDoor
