/-
  DERIVED. GIVEN WITH THE SEED: THE CARDS: each row of YtgpgleojkldndaaDoorRows.lean that lists a variable, with what it lists TIED to the program's text (the seventh form; the later family's looks); each row that meets fmt, with fmt's text TOLD by the authors' own Lean function (tested against real Go, not proved from fmt's source: count such statements apart). THE CARD IS WHAT COUNTS. Prove the row's statement (the work); the ties are given (YtgpgleojkldndaaDoorTie.lean); close each card by the builder's one call (the guide's Derived/Test/ToyasCard.lean, 'card_holds'). Laid BY PROGRAM, IN A SANDBOX (cutbox-door.mjs). By AI agents, Wed Nov 11 2026. No macro, syntax, notation, axiom, sorry.
-/
import Derived.Test.YtgpgleojkldndaaDoorRows
import GoSem.ClaimSeven
namespace Go.Proofs.YtgpgleojkldndaaDoor
namespace Rows

/-- THE TIED CARD OF 'moneyerlaw11.PanCuts'. -/
def panCutsCard : Claim7 := { stood := { row := panCutsRow, standIns := [], harness := (true, "997510ce898ed2b49416d659a71be174cea143952537b8b770093e8d363233de"), looks := false }, kinds := [], alts := [], laidByText := true, laidKinds := [.data, .data, .data, .data], laidTests := true, laidLooks := .later }
def PanCutsCardSaid : Prop := Claim7.holds Tryd.pinned (.plain (OpenSpec.ofChange panCutsSpec)) panCutsCard

/-- THE TIED CARD OF 'moneyerlaw11.PanTokens'. -/
def panTokensCard : Claim7 := { stood := { row := panTokensRow, standIns := [], harness := (true, "997510ce898ed2b49416d659a71be174cea143952537b8b770093e8d363233de"), looks := false }, kinds := [], alts := [], laidByText := true, laidKinds := [.data, .data, .data, .data], laidTests := true, laidLooks := .later }
def PanTokensCardSaid : Prop := Claim7.holds Tryd.pinned (.plain (OpenSpec.ofChange panTokensSpec)) panTokensCard

/-- THE TIED CARD OF 'moneyerlaw11.PanBack'. -/
def panBackCard : Claim7 := { stood := { row := panBackRow, standIns := [], harness := (true, "997510ce898ed2b49416d659a71be174cea143952537b8b770093e8d363233de"), looks := false }, kinds := [], alts := [], laidByText := true, laidKinds := [.data, .data, .data, .data], laidTests := true, laidLooks := .later }
def PanBackCardSaid : Prop := Claim7.holds Tryd.pinned (.plain (OpenSpec.ofChange panBackSpec)) panBackCard

/-- THE TIED CARD OF 'moneyerlaw11.PanHides'. -/
def panHidesCard : Claim7 := { stood := { row := panHidesRow, standIns := [], harness := (true, "997510ce898ed2b49416d659a71be174cea143952537b8b770093e8d363233de"), looks := false }, kinds := [], alts := [], laidByText := true, laidKinds := [.data, .data, .data, .data], laidTests := true, laidLooks := .later }
def PanHidesCardSaid : Prop := Claim7.holds Tryd.pinned (.plain (OpenSpec.ofChange panHidesSpec)) panHidesCard

/-- THE TIED CARD OF 'moneyerlaw11.PanChecks'. -/
def panChecksCard : Claim7 := { stood := { row := panChecksRow, standIns := [], harness := (true, "997510ce898ed2b49416d659a71be174cea143952537b8b770093e8d363233de"), looks := false }, kinds := [], alts := [], laidByText := true, laidKinds := [.data, .data, .data, .data], laidTests := true, laidLooks := .later }
def PanChecksCardSaid : Prop := Claim7.holds Tryd.pinned (.plain (OpenSpec.ofChange panChecksSpec)) panChecksCard

/-- THE TIED CARD OF 'moneyerlaw11.PanLengths'. -/
def panLengthsCard : Claim7 := { stood := { row := panLengthsRow, standIns := [], harness := (true, "997510ce898ed2b49416d659a71be174cea143952537b8b770093e8d363233de"), looks := false }, kinds := [], alts := [], laidByText := true, laidKinds := [.data, .data, .data, .data], laidTests := true, laidLooks := .later }
def PanLengthsCardSaid : Prop := Claim7.holds Tryd.pinned (.plain (OpenSpec.ofChange panLengthsSpec)) panLengthsCard

/-- THE SECOND FORM's CARD OF 'moneyerlaw11.PanCuts'. -/
def panCutsUptoCard : Claim7 := { stood := { row := panCutsUptoRow, standIns := [], harness := (true, "997510ce898ed2b49416d659a71be174cea143952537b8b770093e8d363233de"), looks := false }, kinds := [], alts := [], laidByText := true, laidKinds := [.data, .data, .data, .data], laidTests := true, laidLooks := .later }
def PanCutsUptoCardSaid : Prop := Claim7.holds Tryd.pinned (.plain (OpenSpec.upto panCutsSpec)) panCutsUptoCard

/-- THE SECOND FORM's CARD OF 'moneyerlaw11.PanTokens'. -/
def panTokensUptoCard : Claim7 := { stood := { row := panTokensUptoRow, standIns := [], harness := (true, "997510ce898ed2b49416d659a71be174cea143952537b8b770093e8d363233de"), looks := false }, kinds := [], alts := [], laidByText := true, laidKinds := [.data, .data, .data, .data], laidTests := true, laidLooks := .later }
def PanTokensUptoCardSaid : Prop := Claim7.holds Tryd.pinned (.plain (OpenSpec.upto panTokensSpec)) panTokensUptoCard

/-- THE SECOND FORM's CARD OF 'moneyerlaw11.PanBack'. -/
def panBackUptoCard : Claim7 := { stood := { row := panBackUptoRow, standIns := [], harness := (true, "997510ce898ed2b49416d659a71be174cea143952537b8b770093e8d363233de"), looks := false }, kinds := [], alts := [], laidByText := true, laidKinds := [.data, .data, .data, .data], laidTests := true, laidLooks := .later }
def PanBackUptoCardSaid : Prop := Claim7.holds Tryd.pinned (.plain (OpenSpec.upto panBackSpec)) panBackUptoCard

/-- THE SECOND FORM's CARD OF 'moneyerlaw11.PanHides'. -/
def panHidesUptoCard : Claim7 := { stood := { row := panHidesUptoRow, standIns := [], harness := (true, "997510ce898ed2b49416d659a71be174cea143952537b8b770093e8d363233de"), looks := false }, kinds := [], alts := [], laidByText := true, laidKinds := [.data, .data, .data, .data], laidTests := true, laidLooks := .later }
def PanHidesUptoCardSaid : Prop := Claim7.holds Tryd.pinned (.plain (OpenSpec.upto panHidesSpec)) panHidesUptoCard

/-- THE SECOND FORM's CARD OF 'moneyerlaw11.PanChecks'. -/
def panChecksUptoCard : Claim7 := { stood := { row := panChecksUptoRow, standIns := [], harness := (true, "997510ce898ed2b49416d659a71be174cea143952537b8b770093e8d363233de"), looks := false }, kinds := [], alts := [], laidByText := true, laidKinds := [.data, .data, .data, .data], laidTests := true, laidLooks := .later }
def PanChecksUptoCardSaid : Prop := Claim7.holds Tryd.pinned (.plain (OpenSpec.upto panChecksSpec)) panChecksUptoCard

/-- THE SECOND FORM's CARD OF 'moneyerlaw11.PanLengths'. -/
def panLengthsUptoCard : Claim7 := { stood := { row := panLengthsUptoRow, standIns := [], harness := (true, "997510ce898ed2b49416d659a71be174cea143952537b8b770093e8d363233de"), looks := false }, kinds := [], alts := [], laidByText := true, laidKinds := [.data, .data, .data, .data], laidTests := true, laidLooks := .later }
def PanLengthsUptoCardSaid : Prop := Claim7.holds Tryd.pinned (.plain (OpenSpec.upto panLengthsSpec)) panLengthsUptoCard
end Rows
end Go.Proofs.YtgpgleojkldndaaDoor
