/-
  NARROWER THAN 'FOR EVERY INPUT', by the rows' own cells (each row's printed sentence says how): RadixNumerals: laid · RadixRests: laid · RadixBack: laid · RadixGoes: laid · RadixSums: laid · RadixWidths: laid.
  DERIVED. THE GIVEN ROWS OF THIS SEAT. 6 by the template 'for every input the law returns true; each argument reads behind the call as it read before'; 0 by the template 'total and deterministic' (their statements: YtejljmpjdhdoiaaDoorTotals.lean).
  GIVEN WITH THE SEED: the statements are not yours to turn. If you find one false, say at which input.
  Laid BY PROGRAM, IN A SANDBOX (cutbox-rows.mjs): the forced cells as the released guide's own fill.sh prints them over the translation 54b8d1ab66147833… (all of the seat's roots in one cut). By AI agents, Wed Nov 11 2026. No macro, syntax, notation, axiom, sorry.
-/
import Derived.Test.YtejljmpjdhdoiaaDoorChecked
import GoSem.Claim
import GoSem.ClaimJoined
import GoSem.ClaimMapViews
import Derived.JoinedTies
import Derived.KernelRfl
namespace Go.Proofs.YtejljmpjdhdoiaaDoor
/- THE CELL 'sum', in the pinned program and in every row, IS THE sha256 OF THE DUMP (.gsa) THAT YtejljmpjdhdoiaaDoorProg.lean LOADS. Nothing in Lean hashes anything: it is a label: what it is worth is what the hold of that sum in a sandbox is worth. -/
noncomputable def Tryd.pinned : Pinned := { name := "ytejljmpjdhdoiaadoor", sum := "54b8d1ab66147833cc3f3559ca314b077ed3e841baed86aa3acf8d5559e87171", checked := Tryd.checked }
namespace Rows
def none {H : Type} : Left H := { results := [], args := [] }

/- WHAT THE LISTED PACKAGE-LEVEL VARIABLES READ AS WHEN THE CALL BEGINS. Each datum BY PROGRAM (the guide's laid-datum.mjs) off the statement by which the dump's own 'gosem.cut.vars' lays the variable. In a bare row this is a premise. The card (YtejljmpjdhdoiaaDoorCards.lean) ties it to the program's text. -/
def laid_moneyer_radix_powers {H : Type} : DataW H := .agg [.lit (.int .i64 10), .lit (.int .i64 100), .lit (.int .i64 1000), .lit (.int .i64 10000), .lit (.int .i64 100000), .lit (.int .i64 1000000), .lit (.int .i64 10000000), .lit (.int .i64 100000000), .lit (.int .i64 1000000000), .lit (.int .i64 10000000000), .lit (.int .i64 100000000000), .lit (.int .i64 1000000000000), .lit (.int .i64 10000000000000), .lit (.int .i64 100000000000000), .lit (.int .i64 1000000000000000), .lit (.int .i64 10000000000000000)]

/-- 'moneyerlaw09.RadixNumerals': WHATEVER THE INPUT: true; the input reads as it did. -/
def radixNumeralsSpec : ChangeSpec := { name := "radixNumerals", fn := fun _ => fun
  | [d1, d2, d3] => { results := [.lit (.bool true)], args := [d1, d2, d3] }
  | _ => none }
def radixNumeralsRow : OpenClaim := { program := "ytejljmpjdhdoiaadoor", sum := "54b8d1ab66147833cc3f3559ca314b077ed3e841baed86aa3acf8d5559e87171", func := "moneyer/moneyerlaw09.RadixNumerals", spec := "radixNumerals", named := ["moneyer/radix.powers"], apart := false, laid := [("moneyer/radix.powers", laid_moneyer_radix_powers)] }
def RadixNumeralsSaid : Prop := radixNumeralsRow.holds Tryd.pinned (OpenSpec.ofChange radixNumeralsSpec)

/-- ITS FALSE NEIGHBOUR: 'it returns false'. Refute it at one input. -/
def radixNumeralsWrong : ChangeSpec := { name := "radixNumerals", fn := fun _ => fun
  | [d1, d2, d3] => { results := [.lit (.bool false)], args := [d1, d2, d3] }
  | _ => none }
def RadixNumeralsWrongFalsely : Prop := radixNumeralsRow.holds Tryd.pinned (OpenSpec.ofChange radixNumeralsWrong)

/-- 'moneyerlaw09.RadixRests': WHATEVER THE INPUT: true; the input reads as it did. -/
def radixRestsSpec : ChangeSpec := { name := "radixRests", fn := fun _ => fun
  | [d1, d2, d3, d4] => { results := [.lit (.bool true)], args := [d1, d2, d3, d4] }
  | _ => none }
def radixRestsRow : OpenClaim := { program := "ytejljmpjdhdoiaadoor", sum := "54b8d1ab66147833cc3f3559ca314b077ed3e841baed86aa3acf8d5559e87171", func := "moneyer/moneyerlaw09.RadixRests", spec := "radixRests", named := ["moneyer/radix.powers"], apart := false, laid := [("moneyer/radix.powers", laid_moneyer_radix_powers)] }
def RadixRestsSaid : Prop := radixRestsRow.holds Tryd.pinned (OpenSpec.ofChange radixRestsSpec)

/-- ITS FALSE NEIGHBOUR: 'it returns false'. Refute it at one input. -/
def radixRestsWrong : ChangeSpec := { name := "radixRests", fn := fun _ => fun
  | [d1, d2, d3, d4] => { results := [.lit (.bool false)], args := [d1, d2, d3, d4] }
  | _ => none }
def RadixRestsWrongFalsely : Prop := radixRestsRow.holds Tryd.pinned (OpenSpec.ofChange radixRestsWrong)

/-- 'moneyerlaw09.RadixBack': WHATEVER THE INPUT: true; the input reads as it did. -/
def radixBackSpec : ChangeSpec := { name := "radixBack", fn := fun _ => fun
  | [d1, d2, d3, d4] => { results := [.lit (.bool true)], args := [d1, d2, d3, d4] }
  | _ => none }
def radixBackRow : OpenClaim := { program := "ytejljmpjdhdoiaadoor", sum := "54b8d1ab66147833cc3f3559ca314b077ed3e841baed86aa3acf8d5559e87171", func := "moneyer/moneyerlaw09.RadixBack", spec := "radixBack", named := ["moneyer/radix.powers"], apart := false, laid := [("moneyer/radix.powers", laid_moneyer_radix_powers)] }
def RadixBackSaid : Prop := radixBackRow.holds Tryd.pinned (OpenSpec.ofChange radixBackSpec)

/-- ITS FALSE NEIGHBOUR: 'it returns false'. Refute it at one input. -/
def radixBackWrong : ChangeSpec := { name := "radixBack", fn := fun _ => fun
  | [d1, d2, d3, d4] => { results := [.lit (.bool false)], args := [d1, d2, d3, d4] }
  | _ => none }
def RadixBackWrongFalsely : Prop := radixBackRow.holds Tryd.pinned (OpenSpec.ofChange radixBackWrong)

/-- 'moneyerlaw09.RadixGoes': WHATEVER THE INPUT: true; the input reads as it did. -/
def radixGoesSpec : ChangeSpec := { name := "radixGoes", fn := fun _ => fun
  | [d1, d2, d3] => { results := [.lit (.bool true)], args := [d1, d2, d3] }
  | _ => none }
def radixGoesRow : OpenClaim := { program := "ytejljmpjdhdoiaadoor", sum := "54b8d1ab66147833cc3f3559ca314b077ed3e841baed86aa3acf8d5559e87171", func := "moneyer/moneyerlaw09.RadixGoes", spec := "radixGoes", named := ["moneyer/radix.powers"], apart := false, laid := [("moneyer/radix.powers", laid_moneyer_radix_powers)] }
def RadixGoesSaid : Prop := radixGoesRow.holds Tryd.pinned (OpenSpec.ofChange radixGoesSpec)

/-- ITS FALSE NEIGHBOUR: 'it returns false'. Refute it at one input. -/
def radixGoesWrong : ChangeSpec := { name := "radixGoes", fn := fun _ => fun
  | [d1, d2, d3] => { results := [.lit (.bool false)], args := [d1, d2, d3] }
  | _ => none }
def RadixGoesWrongFalsely : Prop := radixGoesRow.holds Tryd.pinned (OpenSpec.ofChange radixGoesWrong)

/-- 'moneyerlaw09.RadixSums': WHATEVER THE INPUT: true; the input reads as it did. -/
def radixSumsSpec : ChangeSpec := { name := "radixSums", fn := fun _ => fun
  | [d1, d2, d3, d4] => { results := [.lit (.bool true)], args := [d1, d2, d3, d4] }
  | _ => none }
def radixSumsRow : OpenClaim := { program := "ytejljmpjdhdoiaadoor", sum := "54b8d1ab66147833cc3f3559ca314b077ed3e841baed86aa3acf8d5559e87171", func := "moneyer/moneyerlaw09.RadixSums", spec := "radixSums", named := ["moneyer/radix.powers"], apart := false, laid := [("moneyer/radix.powers", laid_moneyer_radix_powers)] }
def RadixSumsSaid : Prop := radixSumsRow.holds Tryd.pinned (OpenSpec.ofChange radixSumsSpec)

/-- ITS FALSE NEIGHBOUR: 'it returns false'. Refute it at one input. -/
def radixSumsWrong : ChangeSpec := { name := "radixSums", fn := fun _ => fun
  | [d1, d2, d3, d4] => { results := [.lit (.bool false)], args := [d1, d2, d3, d4] }
  | _ => none }
def RadixSumsWrongFalsely : Prop := radixSumsRow.holds Tryd.pinned (OpenSpec.ofChange radixSumsWrong)

/-- 'moneyerlaw09.RadixWidths': WHATEVER THE INPUT: true; the input reads as it did. -/
def radixWidthsSpec : ChangeSpec := { name := "radixWidths", fn := fun _ => fun
  | [d] => { results := [.lit (.bool true)], args := [d] }
  | _ => none }
def radixWidthsRow : OpenClaim := { program := "ytejljmpjdhdoiaadoor", sum := "54b8d1ab66147833cc3f3559ca314b077ed3e841baed86aa3acf8d5559e87171", func := "moneyer/moneyerlaw09.RadixWidths", spec := "radixWidths", named := ["moneyer/radix.powers"], apart := false, laid := [("moneyer/radix.powers", laid_moneyer_radix_powers)] }
def RadixWidthsSaid : Prop := radixWidthsRow.holds Tryd.pinned (OpenSpec.ofChange radixWidthsSpec)

/-- ITS FALSE NEIGHBOUR: 'it returns false'. Refute it at one input. -/
def radixWidthsWrong : ChangeSpec := { name := "radixWidths", fn := fun _ => fun
  | [d] => { results := [.lit (.bool false)], args := [d] }
  | _ => none }
def RadixWidthsWrongFalsely : Prop := radixWidthsRow.holds Tryd.pinned (OpenSpec.ofChange radixWidthsWrong)

/- THE SECOND FORM. 'bulk': how many values and letters a reading holds, each counted each time it is reached (what is shared counts as often as it is met; a slice's spare places count too). A statement '..UptoSaid' is the law's where the arguments, and the package variables that the reading takes, are together of bulk at most 1048576: NARROWER than '..Said'. Prove '..Said' where nothing that the law and all that it calls make is longer than what came in: it says more and counts as full. Else prove '..UptoSaid'. A law counts once. -/
mutual
def uptoBulk {H : Type} : DataW H → Nat
  | .lit (.string bytes) => bytes.length + 1
  | .lit _ => 1
  | .nil => 1
  | .ptr d => uptoBulk d + 1
  | .slice elems spare => uptoBulkAll elems + uptoBulkAll spare + 1
  | .agg parts => uptoBulkAll parts + 1
  | .iface _ d => uptoBulk d + 1
  | .map entries => uptoBulkEntries entries + 1
  | .held _ => 1
def uptoBulkAll {H : Type} : List (DataW H) → Nat
  | [] => 0
  | d :: r => uptoBulk d + uptoBulkAll r
def uptoBulkEntries {H : Type} : List (Lit × DataW H) → Nat
  | [] => 0
  | x :: r => uptoBulkEntry x + uptoBulkEntries r
def uptoBulkEntry {H : Type} : Lit × DataW H → Nat
  | (.string bytes, d) => bytes.length + uptoBulk d + 1
  | (_, d) => uptoBulk d + 1
 end
def uptoSmall : (H : Type) → List (DataW H) → Bool := fun _ ds => decide (uptoBulkAll ds ≤ 1048576)
def OpenSpec.upto (s : _root_.Go.ChangeSpec) : _root_.Go.OpenSpec := { _root_.Go.OpenSpec.ofChange s with cond := some uptoSmall }

/-- 'moneyerlaw09.RadixNumerals', WHERE WHAT IT READS IS OF BULK AT MOST 1048576: true; the input reads as it did. -/
def radixNumeralsUptoRow : OpenClaim := { program := "ytejljmpjdhdoiaadoor", sum := "54b8d1ab66147833cc3f3559ca314b077ed3e841baed86aa3acf8d5559e87171", func := "moneyer/moneyerlaw09.RadixNumerals", spec := "radixNumerals", named := ["moneyer/radix.powers"], apart := false, laid := [("moneyer/radix.powers", laid_moneyer_radix_powers)], narrowed := true }
def RadixNumeralsUptoSaid : Prop := radixNumeralsUptoRow.holds Tryd.pinned (OpenSpec.upto radixNumeralsSpec)

/-- 'moneyerlaw09.RadixRests', WHERE WHAT IT READS IS OF BULK AT MOST 1048576: true; the input reads as it did. -/
def radixRestsUptoRow : OpenClaim := { program := "ytejljmpjdhdoiaadoor", sum := "54b8d1ab66147833cc3f3559ca314b077ed3e841baed86aa3acf8d5559e87171", func := "moneyer/moneyerlaw09.RadixRests", spec := "radixRests", named := ["moneyer/radix.powers"], apart := false, laid := [("moneyer/radix.powers", laid_moneyer_radix_powers)], narrowed := true }
def RadixRestsUptoSaid : Prop := radixRestsUptoRow.holds Tryd.pinned (OpenSpec.upto radixRestsSpec)

/-- 'moneyerlaw09.RadixBack', WHERE WHAT IT READS IS OF BULK AT MOST 1048576: true; the input reads as it did. -/
def radixBackUptoRow : OpenClaim := { program := "ytejljmpjdhdoiaadoor", sum := "54b8d1ab66147833cc3f3559ca314b077ed3e841baed86aa3acf8d5559e87171", func := "moneyer/moneyerlaw09.RadixBack", spec := "radixBack", named := ["moneyer/radix.powers"], apart := false, laid := [("moneyer/radix.powers", laid_moneyer_radix_powers)], narrowed := true }
def RadixBackUptoSaid : Prop := radixBackUptoRow.holds Tryd.pinned (OpenSpec.upto radixBackSpec)

/-- 'moneyerlaw09.RadixGoes', WHERE WHAT IT READS IS OF BULK AT MOST 1048576: true; the input reads as it did. -/
def radixGoesUptoRow : OpenClaim := { program := "ytejljmpjdhdoiaadoor", sum := "54b8d1ab66147833cc3f3559ca314b077ed3e841baed86aa3acf8d5559e87171", func := "moneyer/moneyerlaw09.RadixGoes", spec := "radixGoes", named := ["moneyer/radix.powers"], apart := false, laid := [("moneyer/radix.powers", laid_moneyer_radix_powers)], narrowed := true }
def RadixGoesUptoSaid : Prop := radixGoesUptoRow.holds Tryd.pinned (OpenSpec.upto radixGoesSpec)

/-- 'moneyerlaw09.RadixSums', WHERE WHAT IT READS IS OF BULK AT MOST 1048576: true; the input reads as it did. -/
def radixSumsUptoRow : OpenClaim := { program := "ytejljmpjdhdoiaadoor", sum := "54b8d1ab66147833cc3f3559ca314b077ed3e841baed86aa3acf8d5559e87171", func := "moneyer/moneyerlaw09.RadixSums", spec := "radixSums", named := ["moneyer/radix.powers"], apart := false, laid := [("moneyer/radix.powers", laid_moneyer_radix_powers)], narrowed := true }
def RadixSumsUptoSaid : Prop := radixSumsUptoRow.holds Tryd.pinned (OpenSpec.upto radixSumsSpec)

/-- 'moneyerlaw09.RadixWidths', WHERE WHAT IT READS IS OF BULK AT MOST 1048576: true; the input reads as it did. -/
def radixWidthsUptoRow : OpenClaim := { program := "ytejljmpjdhdoiaadoor", sum := "54b8d1ab66147833cc3f3559ca314b077ed3e841baed86aa3acf8d5559e87171", func := "moneyer/moneyerlaw09.RadixWidths", spec := "radixWidths", named := ["moneyer/radix.powers"], apart := false, laid := [("moneyer/radix.powers", laid_moneyer_radix_powers)], narrowed := true }
def RadixWidthsUptoSaid : Prop := radixWidthsUptoRow.holds Tryd.pinned (OpenSpec.upto radixWidthsSpec)

end Rows
end Go.Proofs.YtejljmpjdhdoiaaDoor
