/-
  NARROWER THAN 'FOR EVERY INPUT', by the rows' own cells (each row's printed sentence says how): CheckSums: laid · CheckSectors: laid · CheckBack: laid · CheckTurned: laid · CheckAffine: laid · CheckCuts: laid.
  DERIVED. THE GIVEN ROWS OF THIS SEAT. 6 by the template 'for every input the law returns true; each argument reads behind the call as it read before'; 0 by the template 'total and deterministic' (their statements: YtphbhfilaknbfaaDoorTotals.lean).
  GIVEN WITH THE SEED: the statements are not yours to turn. If you find one false, say at which input.
  Laid BY PROGRAM, IN A SANDBOX (cutbox-rows.mjs): the forced cells as the released guide's own fill.sh prints them over the translation a83619dfa657f6fe… (all of the seat's roots in one cut). By AI agents, Wed Nov 11 2026. No macro, syntax, notation, axiom, sorry.
-/
import Derived.Test.YtphbhfilaknbfaaDoorChecked
import GoSem.Claim
import GoSem.ClaimJoined
import GoSem.ClaimMapViews
import Derived.JoinedTies
import Derived.KernelRfl
namespace Go.Proofs.YtphbhfilaknbfaaDoor
/- THE CELL 'sum', in the pinned program and in every row, IS THE sha256 OF THE DUMP (.gsa) THAT YtphbhfilaknbfaaDoorProg.lean LOADS. Nothing in Lean hashes anything: it is a label: what it is worth is what the hold of that sum in a sandbox is worth. -/
noncomputable def Tryd.pinned : Pinned := { name := "ytphbhfilaknbfaadoor", sum := "a83619dfa657f6feac719602a2c59a77d6655ba410ccb6ac927d2c0520602dd9", checked := Tryd.checked }
namespace Rows
def none {H : Type} : Left H := { results := [], args := [] }

/- WHAT THE LISTED PACKAGE-LEVEL VARIABLES READ AS WHEN THE CALL BEGINS. Each datum BY PROGRAM (the guide's laid-datum.mjs) off the statement by which the dump's own 'gosem.cut.vars' lays the variable. In a bare row this is a premise. The card (YtphbhfilaknbfaaDoorCards.lean) ties it to the program's text. -/
def laid_moneyer_check_table {H : Type} : DataW H := .agg [.lit (.int .u32 0), .lit (.int .u32 498536548), .lit (.int .u32 997073096), .lit (.int .u32 651767980), .lit (.int .u32 1994146192), .lit (.int .u32 1802195444), .lit (.int .u32 1303535960), .lit (.int .u32 1342533948), .lit (.int .u32 3988292384), .lit (.int .u32 4027552580), .lit (.int .u32 3604390888), .lit (.int .u32 3412177804), .lit (.int .u32 2607071920), .lit (.int .u32 2262029012), .lit (.int .u32 2685067896), .lit (.int .u32 3183342108)]

/-- 'moneyerlaw02.CheckSums': WHATEVER THE INPUT: true; the input reads as it did. -/
def checkSumsSpec : ChangeSpec := { name := "checkSums", fn := fun _ => fun
  | [d1, d2] => { results := [.lit (.bool true)], args := [d1, d2] }
  | _ => none }
def checkSumsRow : OpenClaim := { program := "ytphbhfilaknbfaadoor", sum := "a83619dfa657f6feac719602a2c59a77d6655ba410ccb6ac927d2c0520602dd9", func := "moneyer/moneyerlaw02.CheckSums", spec := "checkSums", named := ["moneyer/check.table"], apart := false, laid := [("moneyer/check.table", laid_moneyer_check_table)] }
def CheckSumsSaid : Prop := checkSumsRow.holds Tryd.pinned (OpenSpec.ofChange checkSumsSpec)

/-- ITS FALSE NEIGHBOUR: 'it returns false'. Refute it at one input. -/
def checkSumsWrong : ChangeSpec := { name := "checkSums", fn := fun _ => fun
  | [d1, d2] => { results := [.lit (.bool false)], args := [d1, d2] }
  | _ => none }
def CheckSumsWrongFalsely : Prop := checkSumsRow.holds Tryd.pinned (OpenSpec.ofChange checkSumsWrong)

/-- 'moneyerlaw02.CheckSectors': WHATEVER THE INPUT: true; the input reads as it did. -/
def checkSectorsSpec : ChangeSpec := { name := "checkSectors", fn := fun _ => fun
  | [d1, d2, d3] => { results := [.lit (.bool true)], args := [d1, d2, d3] }
  | _ => none }
def checkSectorsRow : OpenClaim := { program := "ytphbhfilaknbfaadoor", sum := "a83619dfa657f6feac719602a2c59a77d6655ba410ccb6ac927d2c0520602dd9", func := "moneyer/moneyerlaw02.CheckSectors", spec := "checkSectors", named := ["moneyer/check.table"], apart := false, laid := [("moneyer/check.table", laid_moneyer_check_table)] }
def CheckSectorsSaid : Prop := checkSectorsRow.holds Tryd.pinned (OpenSpec.ofChange checkSectorsSpec)

/-- ITS FALSE NEIGHBOUR: 'it returns false'. Refute it at one input. -/
def checkSectorsWrong : ChangeSpec := { name := "checkSectors", fn := fun _ => fun
  | [d1, d2, d3] => { results := [.lit (.bool false)], args := [d1, d2, d3] }
  | _ => none }
def CheckSectorsWrongFalsely : Prop := checkSectorsRow.holds Tryd.pinned (OpenSpec.ofChange checkSectorsWrong)

/-- 'moneyerlaw02.CheckBack': WHATEVER THE INPUT: true; the input reads as it did. -/
def checkBackSpec : ChangeSpec := { name := "checkBack", fn := fun _ => fun
  | [d1, d2] => { results := [.lit (.bool true)], args := [d1, d2] }
  | _ => none }
def checkBackRow : OpenClaim := { program := "ytphbhfilaknbfaadoor", sum := "a83619dfa657f6feac719602a2c59a77d6655ba410ccb6ac927d2c0520602dd9", func := "moneyer/moneyerlaw02.CheckBack", spec := "checkBack", named := ["moneyer/check.table"], apart := false, laid := [("moneyer/check.table", laid_moneyer_check_table)] }
def CheckBackSaid : Prop := checkBackRow.holds Tryd.pinned (OpenSpec.ofChange checkBackSpec)

/-- ITS FALSE NEIGHBOUR: 'it returns false'. Refute it at one input. -/
def checkBackWrong : ChangeSpec := { name := "checkBack", fn := fun _ => fun
  | [d1, d2] => { results := [.lit (.bool false)], args := [d1, d2] }
  | _ => none }
def CheckBackWrongFalsely : Prop := checkBackRow.holds Tryd.pinned (OpenSpec.ofChange checkBackWrong)

/-- 'moneyerlaw02.CheckTurned': WHATEVER THE INPUT: true; the input reads as it did. -/
def checkTurnedSpec : ChangeSpec := { name := "checkTurned", fn := fun _ => fun
  | [d1, d2, d3, d4, d5, d6, d7] => { results := [.lit (.bool true)], args := [d1, d2, d3, d4, d5, d6, d7] }
  | _ => none }
def checkTurnedRow : OpenClaim := { program := "ytphbhfilaknbfaadoor", sum := "a83619dfa657f6feac719602a2c59a77d6655ba410ccb6ac927d2c0520602dd9", func := "moneyer/moneyerlaw02.CheckTurned", spec := "checkTurned", named := ["moneyer/check.table"], apart := false, laid := [("moneyer/check.table", laid_moneyer_check_table)] }
def CheckTurnedSaid : Prop := checkTurnedRow.holds Tryd.pinned (OpenSpec.ofChange checkTurnedSpec)

/-- ITS FALSE NEIGHBOUR: 'it returns false'. Refute it at one input. -/
def checkTurnedWrong : ChangeSpec := { name := "checkTurned", fn := fun _ => fun
  | [d1, d2, d3, d4, d5, d6, d7] => { results := [.lit (.bool false)], args := [d1, d2, d3, d4, d5, d6, d7] }
  | _ => none }
def CheckTurnedWrongFalsely : Prop := checkTurnedRow.holds Tryd.pinned (OpenSpec.ofChange checkTurnedWrong)

/-- 'moneyerlaw02.CheckAffine': WHATEVER THE INPUT: true; the input reads as it did. -/
def checkAffineSpec : ChangeSpec := { name := "checkAffine", fn := fun _ => fun
  | [d1, d2, d3] => { results := [.lit (.bool true)], args := [d1, d2, d3] }
  | _ => none }
def checkAffineRow : OpenClaim := { program := "ytphbhfilaknbfaadoor", sum := "a83619dfa657f6feac719602a2c59a77d6655ba410ccb6ac927d2c0520602dd9", func := "moneyer/moneyerlaw02.CheckAffine", spec := "checkAffine", named := ["moneyer/check.table"], apart := false, laid := [("moneyer/check.table", laid_moneyer_check_table)] }
def CheckAffineSaid : Prop := checkAffineRow.holds Tryd.pinned (OpenSpec.ofChange checkAffineSpec)

/-- ITS FALSE NEIGHBOUR: 'it returns false'. Refute it at one input. -/
def checkAffineWrong : ChangeSpec := { name := "checkAffine", fn := fun _ => fun
  | [d1, d2, d3] => { results := [.lit (.bool false)], args := [d1, d2, d3] }
  | _ => none }
def CheckAffineWrongFalsely : Prop := checkAffineRow.holds Tryd.pinned (OpenSpec.ofChange checkAffineWrong)

/-- 'moneyerlaw02.CheckCuts': WHATEVER THE INPUT: true; the input reads as it did. -/
def checkCutsSpec : ChangeSpec := { name := "checkCuts", fn := fun _ => fun
  | [d1, d2] => { results := [.lit (.bool true)], args := [d1, d2] }
  | _ => none }
def checkCutsRow : OpenClaim := { program := "ytphbhfilaknbfaadoor", sum := "a83619dfa657f6feac719602a2c59a77d6655ba410ccb6ac927d2c0520602dd9", func := "moneyer/moneyerlaw02.CheckCuts", spec := "checkCuts", named := ["moneyer/check.table"], apart := false, laid := [("moneyer/check.table", laid_moneyer_check_table)] }
def CheckCutsSaid : Prop := checkCutsRow.holds Tryd.pinned (OpenSpec.ofChange checkCutsSpec)

/-- ITS FALSE NEIGHBOUR: 'it returns false'. Refute it at one input. -/
def checkCutsWrong : ChangeSpec := { name := "checkCuts", fn := fun _ => fun
  | [d1, d2] => { results := [.lit (.bool false)], args := [d1, d2] }
  | _ => none }
def CheckCutsWrongFalsely : Prop := checkCutsRow.holds Tryd.pinned (OpenSpec.ofChange checkCutsWrong)

/- THE SECOND FORM. 'bulk': how many values and letters a reading holds, each counted each time it is reached (what is shared counts as often as it is met; a slice's spare places count too). A statement '..UptoSaid' is the law's where the arguments, and the package variables that the reading takes, are together of bulk at most 1048576: NARROWER than '..Said'. Prove '..Said' where nothing that the law and all that it calls make is longer than what came in: it says more and counts as full. Else prove '..UptoSaid'. A law counts once. -/
mutual
def uptoBulk {H : Type} : DataW H → Nat
  | .lit (.string bytes) => bytes.length + 1
  | .lit _ => 1
  | .nil => 1
  | .ptr d => uptoBulk d + 1
  | .slice elems spare => uptoBulkAll elems + uptoBulkAll spare + 1
  | .agg parts => uptoBulkAll parts + 1
  | .iface _ d => uptoBulk d + 1
  | .map entries => uptoBulkEntries entries + 1
  | .held _ => 1
def uptoBulkAll {H : Type} : List (DataW H) → Nat
  | [] => 0
  | d :: r => uptoBulk d + uptoBulkAll r
def uptoBulkEntries {H : Type} : List (Lit × DataW H) → Nat
  | [] => 0
  | x :: r => uptoBulkEntry x + uptoBulkEntries r
def uptoBulkEntry {H : Type} : Lit × DataW H → Nat
  | (.string bytes, d) => bytes.length + uptoBulk d + 1
  | (_, d) => uptoBulk d + 1
 end
def uptoSmall : (H : Type) → List (DataW H) → Bool := fun _ ds => decide (uptoBulkAll ds ≤ 1048576)
def OpenSpec.upto (s : _root_.Go.ChangeSpec) : _root_.Go.OpenSpec := { _root_.Go.OpenSpec.ofChange s with cond := some uptoSmall }

/-- 'moneyerlaw02.CheckSums', WHERE WHAT IT READS IS OF BULK AT MOST 1048576: true; the input reads as it did. -/
def checkSumsUptoRow : OpenClaim := { program := "ytphbhfilaknbfaadoor", sum := "a83619dfa657f6feac719602a2c59a77d6655ba410ccb6ac927d2c0520602dd9", func := "moneyer/moneyerlaw02.CheckSums", spec := "checkSums", named := ["moneyer/check.table"], apart := false, laid := [("moneyer/check.table", laid_moneyer_check_table)], narrowed := true }
def CheckSumsUptoSaid : Prop := checkSumsUptoRow.holds Tryd.pinned (OpenSpec.upto checkSumsSpec)

/-- 'moneyerlaw02.CheckSectors', WHERE WHAT IT READS IS OF BULK AT MOST 1048576: true; the input reads as it did. -/
def checkSectorsUptoRow : OpenClaim := { program := "ytphbhfilaknbfaadoor", sum := "a83619dfa657f6feac719602a2c59a77d6655ba410ccb6ac927d2c0520602dd9", func := "moneyer/moneyerlaw02.CheckSectors", spec := "checkSectors", named := ["moneyer/check.table"], apart := false, laid := [("moneyer/check.table", laid_moneyer_check_table)], narrowed := true }
def CheckSectorsUptoSaid : Prop := checkSectorsUptoRow.holds Tryd.pinned (OpenSpec.upto checkSectorsSpec)

/-- 'moneyerlaw02.CheckBack', WHERE WHAT IT READS IS OF BULK AT MOST 1048576: true; the input reads as it did. -/
def checkBackUptoRow : OpenClaim := { program := "ytphbhfilaknbfaadoor", sum := "a83619dfa657f6feac719602a2c59a77d6655ba410ccb6ac927d2c0520602dd9", func := "moneyer/moneyerlaw02.CheckBack", spec := "checkBack", named := ["moneyer/check.table"], apart := false, laid := [("moneyer/check.table", laid_moneyer_check_table)], narrowed := true }
def CheckBackUptoSaid : Prop := checkBackUptoRow.holds Tryd.pinned (OpenSpec.upto checkBackSpec)

/-- 'moneyerlaw02.CheckTurned', WHERE WHAT IT READS IS OF BULK AT MOST 1048576: true; the input reads as it did. -/
def checkTurnedUptoRow : OpenClaim := { program := "ytphbhfilaknbfaadoor", sum := "a83619dfa657f6feac719602a2c59a77d6655ba410ccb6ac927d2c0520602dd9", func := "moneyer/moneyerlaw02.CheckTurned", spec := "checkTurned", named := ["moneyer/check.table"], apart := false, laid := [("moneyer/check.table", laid_moneyer_check_table)], narrowed := true }
def CheckTurnedUptoSaid : Prop := checkTurnedUptoRow.holds Tryd.pinned (OpenSpec.upto checkTurnedSpec)

/-- 'moneyerlaw02.CheckAffine', WHERE WHAT IT READS IS OF BULK AT MOST 1048576: true; the input reads as it did. -/
def checkAffineUptoRow : OpenClaim := { program := "ytphbhfilaknbfaadoor", sum := "a83619dfa657f6feac719602a2c59a77d6655ba410ccb6ac927d2c0520602dd9", func := "moneyer/moneyerlaw02.CheckAffine", spec := "checkAffine", named := ["moneyer/check.table"], apart := false, laid := [("moneyer/check.table", laid_moneyer_check_table)], narrowed := true }
def CheckAffineUptoSaid : Prop := checkAffineUptoRow.holds Tryd.pinned (OpenSpec.upto checkAffineSpec)

/-- 'moneyerlaw02.CheckCuts', WHERE WHAT IT READS IS OF BULK AT MOST 1048576: true; the input reads as it did. -/
def checkCutsUptoRow : OpenClaim := { program := "ytphbhfilaknbfaadoor", sum := "a83619dfa657f6feac719602a2c59a77d6655ba410ccb6ac927d2c0520602dd9", func := "moneyer/moneyerlaw02.CheckCuts", spec := "checkCuts", named := ["moneyer/check.table"], apart := false, laid := [("moneyer/check.table", laid_moneyer_check_table)], narrowed := true }
def CheckCutsUptoSaid : Prop := checkCutsUptoRow.holds Tryd.pinned (OpenSpec.upto checkCutsSpec)

end Rows
end Go.Proofs.YtphbhfilaknbfaaDoor
