/-
  DERIVED. GIVEN WITH THE SEED: THE CARDS: each row of YtogcfaijphpgfaaDoorRows.lean that lists a variable, with what it lists TIED to the program's text (the seventh form; the later family's looks); each row that meets fmt, with fmt's text TOLD by the authors' own Lean function (tested against real Go, not proved from fmt's source: count such statements apart). THE CARD IS WHAT COUNTS. Prove the row's statement (the work); the ties are given (YtogcfaijphpgfaaDoorTie.lean); close each card by the builder's one call (the guide's Derived/Test/ToyasCard.lean, 'card_holds'). Laid BY PROGRAM, IN A SANDBOX (cutbox-door.mjs). By AI agents, Wed Nov 11 2026. No macro, syntax, notation, axiom, sorry.
-/
import Derived.Test.YtogcfaijphpgfaaDoorRows
import GoSem.ClaimSeven
namespace Go.Proofs.YtogcfaijphpgfaaDoor
namespace Rows

/-- THE TIED CARD OF 'moneyerlaw06.MacTags'. -/
def macTagsCard : Claim7 := { stood := { row := macTagsRow, standIns := [], harness := (true, "f280d20e1385ec844c5d592e6cbcb71201a48de72d798f53dc5aa05d83d4f730"), looks := false }, kinds := [], alts := [], laidByText := true, laidKinds := [.data, .data], laidTests := true, laidLooks := .later }
def MacTagsCardSaid : Prop := Claim7.holds Tryd.pinned (.plain (OpenSpec.ofChange macTagsSpec)) macTagsCard

/-- THE TIED CARD OF 'moneyerlaw06.MacSame'. -/
def macSameCard : Claim7 := { stood := { row := macSameRow, standIns := [], harness := (true, "f280d20e1385ec844c5d592e6cbcb71201a48de72d798f53dc5aa05d83d4f730"), looks := false }, kinds := [], alts := [], laidByText := true, laidKinds := [.data, .data], laidTests := true, laidLooks := .later }
def MacSameCardSaid : Prop := Claim7.holds Tryd.pinned (.plain (OpenSpec.ofChange macSameSpec)) macSameCard

/-- THE TIED CARD OF 'moneyerlaw06.MacFolds'. -/
def macFoldsCard : Claim7 := { stood := { row := macFoldsRow, standIns := [], harness := (true, "f280d20e1385ec844c5d592e6cbcb71201a48de72d798f53dc5aa05d83d4f730"), looks := false }, kinds := [], alts := [], laidByText := true, laidKinds := [.data, .data], laidTests := true, laidLooks := .later }
def MacFoldsCardSaid : Prop := Claim7.holds Tryd.pinned (.plain (OpenSpec.ofChange macFoldsSpec)) macFoldsCard

/-- THE TIED CARD OF 'moneyerlaw06.MacCuts'. -/
def macCutsCard : Claim7 := { stood := { row := macCutsRow, standIns := [], harness := (true, "f280d20e1385ec844c5d592e6cbcb71201a48de72d798f53dc5aa05d83d4f730"), looks := false }, kinds := [], alts := [], laidByText := true, laidKinds := [.data, .data], laidTests := true, laidLooks := .later }
def MacCutsCardSaid : Prop := Claim7.holds Tryd.pinned (.plain (OpenSpec.ofChange macCutsSpec)) macCutsCard

/-- THE TIED CARD OF 'moneyerlaw06.MacLong'. -/
def macLongCard : Claim7 := { stood := { row := macLongRow, standIns := [], harness := (true, "f280d20e1385ec844c5d592e6cbcb71201a48de72d798f53dc5aa05d83d4f730"), looks := false }, kinds := [], alts := [], laidByText := true, laidKinds := [.data, .data], laidTests := true, laidLooks := .later }
def MacLongCardSaid : Prop := Claim7.holds Tryd.pinned (.plain (OpenSpec.ofChange macLongSpec)) macLongCard

/-- THE TIED CARD OF 'moneyerlaw06.MacPairs'. -/
def macPairsCard : Claim7 := { stood := { row := macPairsRow, standIns := [], harness := (true, "f280d20e1385ec844c5d592e6cbcb71201a48de72d798f53dc5aa05d83d4f730"), looks := false }, kinds := [], alts := [], laidByText := true, laidKinds := [.data, .data], laidTests := true, laidLooks := .later }
def MacPairsCardSaid : Prop := Claim7.holds Tryd.pinned (.plain (OpenSpec.ofChange macPairsSpec)) macPairsCard

/-- THE SECOND FORM's CARD OF 'moneyerlaw06.MacTags'. -/
def macTagsUptoCard : Claim7 := { stood := { row := macTagsUptoRow, standIns := [], harness := (true, "f280d20e1385ec844c5d592e6cbcb71201a48de72d798f53dc5aa05d83d4f730"), looks := false }, kinds := [], alts := [], laidByText := true, laidKinds := [.data, .data], laidTests := true, laidLooks := .later }
def MacTagsUptoCardSaid : Prop := Claim7.holds Tryd.pinned (.plain (OpenSpec.upto macTagsSpec)) macTagsUptoCard

/-- THE SECOND FORM's CARD OF 'moneyerlaw06.MacSame'. -/
def macSameUptoCard : Claim7 := { stood := { row := macSameUptoRow, standIns := [], harness := (true, "f280d20e1385ec844c5d592e6cbcb71201a48de72d798f53dc5aa05d83d4f730"), looks := false }, kinds := [], alts := [], laidByText := true, laidKinds := [.data, .data], laidTests := true, laidLooks := .later }
def MacSameUptoCardSaid : Prop := Claim7.holds Tryd.pinned (.plain (OpenSpec.upto macSameSpec)) macSameUptoCard

/-- THE SECOND FORM's CARD OF 'moneyerlaw06.MacFolds'. -/
def macFoldsUptoCard : Claim7 := { stood := { row := macFoldsUptoRow, standIns := [], harness := (true, "f280d20e1385ec844c5d592e6cbcb71201a48de72d798f53dc5aa05d83d4f730"), looks := false }, kinds := [], alts := [], laidByText := true, laidKinds := [.data, .data], laidTests := true, laidLooks := .later }
def MacFoldsUptoCardSaid : Prop := Claim7.holds Tryd.pinned (.plain (OpenSpec.upto macFoldsSpec)) macFoldsUptoCard

/-- THE SECOND FORM's CARD OF 'moneyerlaw06.MacCuts'. -/
def macCutsUptoCard : Claim7 := { stood := { row := macCutsUptoRow, standIns := [], harness := (true, "f280d20e1385ec844c5d592e6cbcb71201a48de72d798f53dc5aa05d83d4f730"), looks := false }, kinds := [], alts := [], laidByText := true, laidKinds := [.data, .data], laidTests := true, laidLooks := .later }
def MacCutsUptoCardSaid : Prop := Claim7.holds Tryd.pinned (.plain (OpenSpec.upto macCutsSpec)) macCutsUptoCard

/-- THE SECOND FORM's CARD OF 'moneyerlaw06.MacLong'. -/
def macLongUptoCard : Claim7 := { stood := { row := macLongUptoRow, standIns := [], harness := (true, "f280d20e1385ec844c5d592e6cbcb71201a48de72d798f53dc5aa05d83d4f730"), looks := false }, kinds := [], alts := [], laidByText := true, laidKinds := [.data, .data], laidTests := true, laidLooks := .later }
def MacLongUptoCardSaid : Prop := Claim7.holds Tryd.pinned (.plain (OpenSpec.upto macLongSpec)) macLongUptoCard

/-- THE SECOND FORM's CARD OF 'moneyerlaw06.MacPairs'. -/
def macPairsUptoCard : Claim7 := { stood := { row := macPairsUptoRow, standIns := [], harness := (true, "f280d20e1385ec844c5d592e6cbcb71201a48de72d798f53dc5aa05d83d4f730"), looks := false }, kinds := [], alts := [], laidByText := true, laidKinds := [.data, .data], laidTests := true, laidLooks := .later }
def MacPairsUptoCardSaid : Prop := Claim7.holds Tryd.pinned (.plain (OpenSpec.upto macPairsSpec)) macPairsUptoCard
end Rows
end Go.Proofs.YtogcfaijphpgfaaDoor
