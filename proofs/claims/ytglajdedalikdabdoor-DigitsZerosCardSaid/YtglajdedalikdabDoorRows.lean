/-
  NARROWER THAN 'FOR EVERY INPUT', by the rows' own cells (each row's printed sentence says how): DigitsZeros: laid · DigitsLast: laid.
  DERIVED. THE GIVEN ROWS OF THIS SEAT. 2 by the template 'for every input the law returns true; each argument reads behind the call as it read before'; 0 by the template 'total and deterministic' (their statements: YtglajdedalikdabDoorTotals.lean).
  GIVEN WITH THE SEED: the statements are not yours to turn. If you find one false, say at which input.
  Laid BY PROGRAM, IN A SANDBOX (cutbox-rows.mjs): the forced cells as the released guide's own fill.sh prints them over the translation ec72778ba8eeb4c7… (all of the seat's roots in one cut). By AI agents, Wed Nov 11 2026. No macro, syntax, notation, axiom, sorry.
-/
import Derived.Test.YtglajdedalikdabDoorChecked
import GoSem.Claim
import GoSem.ClaimJoined
import GoSem.ClaimMapViews
import Derived.JoinedTies
import Derived.KernelRfl
namespace Go.Proofs.YtglajdedalikdabDoor
/- THE CELL 'sum', in the pinned program and in every row, IS THE sha256 OF THE DUMP (.gsa) THAT YtglajdedalikdabDoorProg.lean LOADS. Nothing in Lean hashes anything: it is a label: what it is worth is what the hold of that sum in a sandbox is worth. -/
noncomputable def Tryd.pinned : Pinned := { name := "ytglajdedalikdabdoor", sum := "ec72778ba8eeb4c7426a864299344c17feb8c6b1cfc453da92c0cefad94d94d5", checked := Tryd.checked }
namespace Rows
def none {H : Type} : Left H := { results := [], args := [] }

/- WHAT THE LISTED PACKAGE-LEVEL VARIABLES READ AS WHEN THE CALL BEGINS. Each datum BY PROGRAM (the guide's laid-datum.mjs) off the statement by which the dump's own 'gosem.cut.vars' lays the variable. In a bare row this is a premise. The card (YtglajdedalikdabDoorCards.lean) ties it to the program's text. -/
def laid_moneyer_digits_weights {H : Type} : DataW H := .agg [.agg [.lit (.int .i64 0), .lit (.int .i64 1), .lit (.int .i64 2), .lit (.int .i64 3), .lit (.int .i64 4), .lit (.int .i64 5), .lit (.int .i64 6), .lit (.int .i64 7), .lit (.int .i64 8), .lit (.int .i64 9)], .agg [.lit (.int .i64 0), .lit (.int .i64 2), .lit (.int .i64 4), .lit (.int .i64 6), .lit (.int .i64 8), .lit (.int .i64 1), .lit (.int .i64 3), .lit (.int .i64 5), .lit (.int .i64 7), .lit (.int .i64 9)]]

/-- 'moneyerlaw01.DigitsZeros': WHATEVER THE INPUT: true; the input reads as it did. -/
def digitsZerosSpec : ChangeSpec := { name := "digitsZeros", fn := fun _ => fun
  | [d1, d2] => { results := [.lit (.bool true)], args := [d1, d2] }
  | _ => none }
def digitsZerosRow : OpenClaim := { program := "ytglajdedalikdabdoor", sum := "ec72778ba8eeb4c7426a864299344c17feb8c6b1cfc453da92c0cefad94d94d5", func := "moneyer/moneyerlaw01.DigitsZeros", spec := "digitsZeros", named := ["moneyer/digits.weights"], apart := false, laid := [("moneyer/digits.weights", laid_moneyer_digits_weights)] }
def DigitsZerosSaid : Prop := digitsZerosRow.holds Tryd.pinned (OpenSpec.ofChange digitsZerosSpec)

/-- ITS FALSE NEIGHBOUR: 'it returns false'. Refute it at one input. -/
def digitsZerosWrong : ChangeSpec := { name := "digitsZeros", fn := fun _ => fun
  | [d1, d2] => { results := [.lit (.bool false)], args := [d1, d2] }
  | _ => none }
def DigitsZerosWrongFalsely : Prop := digitsZerosRow.holds Tryd.pinned (OpenSpec.ofChange digitsZerosWrong)

/-- 'moneyerlaw01.DigitsLast': WHATEVER THE INPUT: true; the input reads as it did. -/
def digitsLastSpec : ChangeSpec := { name := "digitsLast", fn := fun _ => fun
  | [d] => { results := [.lit (.bool true)], args := [d] }
  | _ => none }
def digitsLastRow : OpenClaim := { program := "ytglajdedalikdabdoor", sum := "ec72778ba8eeb4c7426a864299344c17feb8c6b1cfc453da92c0cefad94d94d5", func := "moneyer/moneyerlaw01.DigitsLast", spec := "digitsLast", named := ["moneyer/digits.weights"], apart := false, laid := [("moneyer/digits.weights", laid_moneyer_digits_weights)] }
def DigitsLastSaid : Prop := digitsLastRow.holds Tryd.pinned (OpenSpec.ofChange digitsLastSpec)

/-- ITS FALSE NEIGHBOUR: 'it returns false'. Refute it at one input. -/
def digitsLastWrong : ChangeSpec := { name := "digitsLast", fn := fun _ => fun
  | [d] => { results := [.lit (.bool false)], args := [d] }
  | _ => none }
def DigitsLastWrongFalsely : Prop := digitsLastRow.holds Tryd.pinned (OpenSpec.ofChange digitsLastWrong)

/- THE SECOND FORM. 'bulk': how many values and letters a reading holds, each counted each time it is reached (what is shared counts as often as it is met; a slice's spare places count too). A statement '..UptoSaid' is the law's where the arguments, and the package variables that the reading takes, are together of bulk at most 1048576: NARROWER than '..Said'. Prove '..Said' where nothing that the law and all that it calls make is longer than what came in: it says more and counts as full. Else prove '..UptoSaid'. A law counts once. -/
mutual
def uptoBulk {H : Type} : DataW H → Nat
  | .lit (.string bytes) => bytes.length + 1
  | .lit _ => 1
  | .nil => 1
  | .ptr d => uptoBulk d + 1
  | .slice elems spare => uptoBulkAll elems + uptoBulkAll spare + 1
  | .agg parts => uptoBulkAll parts + 1
  | .iface _ d => uptoBulk d + 1
  | .map entries => uptoBulkEntries entries + 1
  | .held _ => 1
def uptoBulkAll {H : Type} : List (DataW H) → Nat
  | [] => 0
  | d :: r => uptoBulk d + uptoBulkAll r
def uptoBulkEntries {H : Type} : List (Lit × DataW H) → Nat
  | [] => 0
  | x :: r => uptoBulkEntry x + uptoBulkEntries r
def uptoBulkEntry {H : Type} : Lit × DataW H → Nat
  | (.string bytes, d) => bytes.length + uptoBulk d + 1
  | (_, d) => uptoBulk d + 1
 end
def uptoSmall : (H : Type) → List (DataW H) → Bool := fun _ ds => decide (uptoBulkAll ds ≤ 1048576)
def OpenSpec.upto (s : _root_.Go.ChangeSpec) : _root_.Go.OpenSpec := { _root_.Go.OpenSpec.ofChange s with cond := some uptoSmall }

/-- 'moneyerlaw01.DigitsZeros', WHERE WHAT IT READS IS OF BULK AT MOST 1048576: true; the input reads as it did. -/
def digitsZerosUptoRow : OpenClaim := { program := "ytglajdedalikdabdoor", sum := "ec72778ba8eeb4c7426a864299344c17feb8c6b1cfc453da92c0cefad94d94d5", func := "moneyer/moneyerlaw01.DigitsZeros", spec := "digitsZeros", named := ["moneyer/digits.weights"], apart := false, laid := [("moneyer/digits.weights", laid_moneyer_digits_weights)], narrowed := true }
def DigitsZerosUptoSaid : Prop := digitsZerosUptoRow.holds Tryd.pinned (OpenSpec.upto digitsZerosSpec)

/-- 'moneyerlaw01.DigitsLast', WHERE WHAT IT READS IS OF BULK AT MOST 1048576: true; the input reads as it did. -/
def digitsLastUptoRow : OpenClaim := { program := "ytglajdedalikdabdoor", sum := "ec72778ba8eeb4c7426a864299344c17feb8c6b1cfc453da92c0cefad94d94d5", func := "moneyer/moneyerlaw01.DigitsLast", spec := "digitsLast", named := ["moneyer/digits.weights"], apart := false, laid := [("moneyer/digits.weights", laid_moneyer_digits_weights)], narrowed := true }
def DigitsLastUptoSaid : Prop := digitsLastUptoRow.holds Tryd.pinned (OpenSpec.upto digitsLastSpec)

end Rows
end Go.Proofs.YtglajdedalikdabDoor
