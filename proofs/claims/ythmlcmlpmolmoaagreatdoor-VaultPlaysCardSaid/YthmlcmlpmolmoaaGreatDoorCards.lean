/-
  DERIVED. GIVEN WITH THE SEED: THE CARDS: each row of YthmlcmlpmolmoaaGreatDoorRows.lean that lists a variable, with what it lists TIED to the program's text (the seventh form; the later family's looks); each row that meets fmt, with fmt's text TOLD by the authors' own Lean function (tested against real Go, not proved from fmt's source: count such statements apart). THE CARD IS WHAT COUNTS. Prove the row's statement (the work); the ties are given (YthmlcmlpmolmoaaGreatDoorTie.lean); close each card by the builder's one call (the guide's Derived/Test/ToyasCard.lean, 'card_holds'). Laid BY PROGRAM, IN A SANDBOX (cutbox-door.mjs). By AI agents, Wed Nov 11 2026. No macro, syntax, notation, axiom, sorry.
-/
import Derived.Test.YthmlcmlpmolmoaaGreatDoorRows
import GoSem.ClaimSeven
namespace Go.Proofs.YthmlcmlpmolmoaaGreatDoor
namespace Rows

/-- THE TIED CARD OF 'moneyerlaw14.VaultPlays'. -/
def vaultPlaysCard : Claim7 := { stood := { row := vaultPlaysRow, standIns := [], harness := (true, "46f0f566445b061206c2715eaa39d2850284dc4141ee16dafc912d3bfcdc5336"), looks := false }, kinds := [], alts := [], laidByText := true, laidKinds := [.data, .data, .data, .data, .data, .data, .data], laidTests := true, laidLooks := .later }
def VaultPlaysCardSaid : Prop := Claim7.holds Tryz.pinned (.plain (OpenSpec.ofChange vaultPlaysSpec)) vaultPlaysCard

/-- THE TIED CARD OF 'moneyerlaw14.VaultBack'. -/
def vaultBackCard : Claim7 := { stood := { row := vaultBackRow, standIns := [], harness := (true, "46f0f566445b061206c2715eaa39d2850284dc4141ee16dafc912d3bfcdc5336"), looks := false }, kinds := [], alts := [], laidByText := true, laidKinds := [.data, .data, .data, .data, .data, .data, .data], laidTests := true, laidLooks := .later }
def VaultBackCardSaid : Prop := Claim7.holds Tryz.pinned (.plain (OpenSpec.ofChange vaultBackSpec)) vaultBackCard

/-- THE TIED CARD OF 'moneyerlaw14.VaultApart'. -/
def vaultApartCard : Claim7 := { stood := { row := vaultApartRow, standIns := [], harness := (true, "46f0f566445b061206c2715eaa39d2850284dc4141ee16dafc912d3bfcdc5336"), looks := false }, kinds := [], alts := [], laidByText := true, laidKinds := [.data, .data, .data, .data, .data, .data, .data], laidTests := true, laidLooks := .later }
def VaultApartCardSaid : Prop := Claim7.holds Tryz.pinned (.plain (OpenSpec.ofChange vaultApartSpec)) vaultApartCard

/-- THE TIED CARD OF 'moneyerlaw14.VaultRotates'. -/
def vaultRotatesCard : Claim7 := { stood := { row := vaultRotatesRow, standIns := [], harness := (true, "46f0f566445b061206c2715eaa39d2850284dc4141ee16dafc912d3bfcdc5336"), looks := false }, kinds := [], alts := [], laidByText := true, laidKinds := [.data, .data, .data, .data, .data, .data, .data], laidTests := true, laidLooks := .later }
def VaultRotatesCardSaid : Prop := Claim7.holds Tryz.pinned (.plain (OpenSpec.ofChange vaultRotatesSpec)) vaultRotatesCard

/-- THE TIED CARD OF 'moneyerlaw14.VaultShaped'. -/
def vaultShapedCard : Claim7 := { stood := { row := vaultShapedRow, standIns := [], harness := (true, "46f0f566445b061206c2715eaa39d2850284dc4141ee16dafc912d3bfcdc5336"), looks := false }, kinds := [], alts := [], laidByText := true, laidKinds := [.data, .data, .data, .data, .data, .data, .data], laidTests := true, laidLooks := .later }
def VaultShapedCardSaid : Prop := Claim7.holds Tryz.pinned (.plain (OpenSpec.ofChange vaultShapedSpec)) vaultShapedCard

/-- THE TIED CARD OF 'moneyertop.TopTokens'. -/
def topTokensCard : Claim7 := { stood := { row := topTokensRow, standIns := [], harness := (true, "46f0f566445b061206c2715eaa39d2850284dc4141ee16dafc912d3bfcdc5336"), looks := false }, kinds := [], alts := [], laidByText := true, laidKinds := [.data, .data, .data, .data, .data, .data, .data], laidTests := true, laidLooks := .later }
def TopTokensCardSaid : Prop := Claim7.holds Tryz.pinned (.plain (OpenSpec.ofChange topTokensSpec)) topTokensCard

/-- THE TIED CARD OF 'moneyertop.TopApart'. -/
def topApartCard : Claim7 := { stood := { row := topApartRow, standIns := [], harness := (true, "46f0f566445b061206c2715eaa39d2850284dc4141ee16dafc912d3bfcdc5336"), looks := false }, kinds := [], alts := [], laidByText := true, laidKinds := [.data, .data, .data, .data, .data, .data, .data], laidTests := true, laidLooks := .later }
def TopApartCardSaid : Prop := Claim7.holds Tryz.pinned (.plain (OpenSpec.ofChange topApartSpec)) topApartCard

/-- THE SECOND FORM's CARD OF 'moneyerlaw14.VaultPlays'. -/
def vaultPlaysUptoCard : Claim7 := { stood := { row := vaultPlaysUptoRow, standIns := [], harness := (true, "46f0f566445b061206c2715eaa39d2850284dc4141ee16dafc912d3bfcdc5336"), looks := false }, kinds := [], alts := [], laidByText := true, laidKinds := [.data, .data, .data, .data, .data, .data, .data], laidTests := true, laidLooks := .later }
def VaultPlaysUptoCardSaid : Prop := Claim7.holds Tryz.pinned (.plain (OpenSpec.upto vaultPlaysSpec)) vaultPlaysUptoCard

/-- THE SECOND FORM's CARD OF 'moneyerlaw14.VaultBack'. -/
def vaultBackUptoCard : Claim7 := { stood := { row := vaultBackUptoRow, standIns := [], harness := (true, "46f0f566445b061206c2715eaa39d2850284dc4141ee16dafc912d3bfcdc5336"), looks := false }, kinds := [], alts := [], laidByText := true, laidKinds := [.data, .data, .data, .data, .data, .data, .data], laidTests := true, laidLooks := .later }
def VaultBackUptoCardSaid : Prop := Claim7.holds Tryz.pinned (.plain (OpenSpec.upto vaultBackSpec)) vaultBackUptoCard

/-- THE SECOND FORM's CARD OF 'moneyerlaw14.VaultApart'. -/
def vaultApartUptoCard : Claim7 := { stood := { row := vaultApartUptoRow, standIns := [], harness := (true, "46f0f566445b061206c2715eaa39d2850284dc4141ee16dafc912d3bfcdc5336"), looks := false }, kinds := [], alts := [], laidByText := true, laidKinds := [.data, .data, .data, .data, .data, .data, .data], laidTests := true, laidLooks := .later }
def VaultApartUptoCardSaid : Prop := Claim7.holds Tryz.pinned (.plain (OpenSpec.upto vaultApartSpec)) vaultApartUptoCard

/-- THE SECOND FORM's CARD OF 'moneyerlaw14.VaultRotates'. -/
def vaultRotatesUptoCard : Claim7 := { stood := { row := vaultRotatesUptoRow, standIns := [], harness := (true, "46f0f566445b061206c2715eaa39d2850284dc4141ee16dafc912d3bfcdc5336"), looks := false }, kinds := [], alts := [], laidByText := true, laidKinds := [.data, .data, .data, .data, .data, .data, .data], laidTests := true, laidLooks := .later }
def VaultRotatesUptoCardSaid : Prop := Claim7.holds Tryz.pinned (.plain (OpenSpec.upto vaultRotatesSpec)) vaultRotatesUptoCard

/-- THE SECOND FORM's CARD OF 'moneyerlaw14.VaultShaped'. -/
def vaultShapedUptoCard : Claim7 := { stood := { row := vaultShapedUptoRow, standIns := [], harness := (true, "46f0f566445b061206c2715eaa39d2850284dc4141ee16dafc912d3bfcdc5336"), looks := false }, kinds := [], alts := [], laidByText := true, laidKinds := [.data, .data, .data, .data, .data, .data, .data], laidTests := true, laidLooks := .later }
def VaultShapedUptoCardSaid : Prop := Claim7.holds Tryz.pinned (.plain (OpenSpec.upto vaultShapedSpec)) vaultShapedUptoCard

/-- THE SECOND FORM's CARD OF 'moneyertop.TopTokens'. -/
def topTokensUptoCard : Claim7 := { stood := { row := topTokensUptoRow, standIns := [], harness := (true, "46f0f566445b061206c2715eaa39d2850284dc4141ee16dafc912d3bfcdc5336"), looks := false }, kinds := [], alts := [], laidByText := true, laidKinds := [.data, .data, .data, .data, .data, .data, .data], laidTests := true, laidLooks := .later }
def TopTokensUptoCardSaid : Prop := Claim7.holds Tryz.pinned (.plain (OpenSpec.upto topTokensSpec)) topTokensUptoCard

/-- THE SECOND FORM's CARD OF 'moneyertop.TopApart'. -/
def topApartUptoCard : Claim7 := { stood := { row := topApartUptoRow, standIns := [], harness := (true, "46f0f566445b061206c2715eaa39d2850284dc4141ee16dafc912d3bfcdc5336"), looks := false }, kinds := [], alts := [], laidByText := true, laidKinds := [.data, .data, .data, .data, .data, .data, .data], laidTests := true, laidLooks := .later }
def TopApartUptoCardSaid : Prop := Claim7.holds Tryz.pinned (.plain (OpenSpec.upto topApartSpec)) topApartUptoCard
end Rows
end Go.Proofs.YthmlcmlpmolmoaaGreatDoor
