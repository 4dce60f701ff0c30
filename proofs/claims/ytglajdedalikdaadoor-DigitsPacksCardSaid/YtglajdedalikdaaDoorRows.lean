/-
  NARROWER THAN 'FOR EVERY INPUT', by the rows' own cells (each row's printed sentence says how): DigitsPacks: laid · DigitsChecks: laid · DigitsNumbers: laid · DigitsBack: laid · DigitsTurned: laid · DigitsEnds: laid.
  DERIVED. THE GIVEN ROWS OF THIS SEAT. 6 by the template 'for every input the law returns true; each argument reads behind the call as it read before'; 0 by the template 'total and deterministic' (their statements: YtglajdedalikdaaDoorTotals.lean).
  GIVEN WITH THE SEED: the statements are not yours to turn. If you find one false, say at which input.
  Laid BY PROGRAM, IN A SANDBOX (cutbox-rows.mjs): the forced cells as the released guide's own fill.sh prints them over the translation b72fd96712c02f0c… (all of the seat's roots in one cut). By AI agents, Wed Nov 11 2026. No macro, syntax, notation, axiom, sorry.
-/
import Derived.Test.YtglajdedalikdaaDoorChecked
import GoSem.Claim
import GoSem.ClaimJoined
import GoSem.ClaimMapViews
import Derived.JoinedTies
import Derived.KernelRfl
namespace Go.Proofs.YtglajdedalikdaaDoor
/- THE CELL 'sum', in the pinned program and in every row, IS THE sha256 OF THE DUMP (.gsa) THAT YtglajdedalikdaaDoorProg.lean LOADS. Nothing in Lean hashes anything: it is a label: what it is worth is what the hold of that sum in a sandbox is worth. -/
noncomputable def Tryd.pinned : Pinned := { name := "ytglajdedalikdaadoor", sum := "b72fd96712c02f0c4075032ae5fffa0553aafc28465919ac8794f8f68696262c", checked := Tryd.checked }
namespace Rows
def none {H : Type} : Left H := { results := [], args := [] }

/- WHAT THE LISTED PACKAGE-LEVEL VARIABLES READ AS WHEN THE CALL BEGINS. Each datum BY PROGRAM (the guide's laid-datum.mjs) off the statement by which the dump's own 'gosem.cut.vars' lays the variable. In a bare row this is a premise. The card (YtglajdedalikdaaDoorCards.lean) ties it to the program's text. -/
def laid_moneyer_digits_weights {H : Type} : DataW H := .agg [.agg [.lit (.int .i64 0), .lit (.int .i64 1), .lit (.int .i64 2), .lit (.int .i64 3), .lit (.int .i64 4), .lit (.int .i64 5), .lit (.int .i64 6), .lit (.int .i64 7), .lit (.int .i64 8), .lit (.int .i64 9)], .agg [.lit (.int .i64 0), .lit (.int .i64 2), .lit (.int .i64 4), .lit (.int .i64 6), .lit (.int .i64 8), .lit (.int .i64 1), .lit (.int .i64 3), .lit (.int .i64 5), .lit (.int .i64 7), .lit (.int .i64 9)]]

/-- 'moneyerlaw01.DigitsPacks': WHATEVER THE INPUT: true; the input reads as it did. -/
def digitsPacksSpec : ChangeSpec := { name := "digitsPacks", fn := fun _ => fun
  | [d1, d2, d3] => { results := [.lit (.bool true)], args := [d1, d2, d3] }
  | _ => none }
def digitsPacksRow : OpenClaim := { program := "ytglajdedalikdaadoor", sum := "b72fd96712c02f0c4075032ae5fffa0553aafc28465919ac8794f8f68696262c", func := "moneyer/moneyerlaw01.DigitsPacks", spec := "digitsPacks", named := ["moneyer/digits.weights"], apart := false, laid := [("moneyer/digits.weights", laid_moneyer_digits_weights)] }
def DigitsPacksSaid : Prop := digitsPacksRow.holds Tryd.pinned (OpenSpec.ofChange digitsPacksSpec)

/-- ITS FALSE NEIGHBOUR: 'it returns false'. Refute it at one input. -/
def digitsPacksWrong : ChangeSpec := { name := "digitsPacks", fn := fun _ => fun
  | [d1, d2, d3] => { results := [.lit (.bool false)], args := [d1, d2, d3] }
  | _ => none }
def DigitsPacksWrongFalsely : Prop := digitsPacksRow.holds Tryd.pinned (OpenSpec.ofChange digitsPacksWrong)

/-- 'moneyerlaw01.DigitsChecks': WHATEVER THE INPUT: true; the input reads as it did. -/
def digitsChecksSpec : ChangeSpec := { name := "digitsChecks", fn := fun _ => fun
  | [d] => { results := [.lit (.bool true)], args := [d] }
  | _ => none }
def digitsChecksRow : OpenClaim := { program := "ytglajdedalikdaadoor", sum := "b72fd96712c02f0c4075032ae5fffa0553aafc28465919ac8794f8f68696262c", func := "moneyer/moneyerlaw01.DigitsChecks", spec := "digitsChecks", named := ["moneyer/digits.weights"], apart := false, laid := [("moneyer/digits.weights", laid_moneyer_digits_weights)] }
def DigitsChecksSaid : Prop := digitsChecksRow.holds Tryd.pinned (OpenSpec.ofChange digitsChecksSpec)

/-- ITS FALSE NEIGHBOUR: 'it returns false'. Refute it at one input. -/
def digitsChecksWrong : ChangeSpec := { name := "digitsChecks", fn := fun _ => fun
  | [d] => { results := [.lit (.bool false)], args := [d] }
  | _ => none }
def DigitsChecksWrongFalsely : Prop := digitsChecksRow.holds Tryd.pinned (OpenSpec.ofChange digitsChecksWrong)

/-- 'moneyerlaw01.DigitsNumbers': WHATEVER THE INPUT: true; the input reads as it did. -/
def digitsNumbersSpec : ChangeSpec := { name := "digitsNumbers", fn := fun _ => fun
  | [d1, d2, d3] => { results := [.lit (.bool true)], args := [d1, d2, d3] }
  | _ => none }
def digitsNumbersRow : OpenClaim := { program := "ytglajdedalikdaadoor", sum := "b72fd96712c02f0c4075032ae5fffa0553aafc28465919ac8794f8f68696262c", func := "moneyer/moneyerlaw01.DigitsNumbers", spec := "digitsNumbers", named := ["moneyer/digits.weights"], apart := false, laid := [("moneyer/digits.weights", laid_moneyer_digits_weights)] }
def DigitsNumbersSaid : Prop := digitsNumbersRow.holds Tryd.pinned (OpenSpec.ofChange digitsNumbersSpec)

/-- ITS FALSE NEIGHBOUR: 'it returns false'. Refute it at one input. -/
def digitsNumbersWrong : ChangeSpec := { name := "digitsNumbers", fn := fun _ => fun
  | [d1, d2, d3] => { results := [.lit (.bool false)], args := [d1, d2, d3] }
  | _ => none }
def DigitsNumbersWrongFalsely : Prop := digitsNumbersRow.holds Tryd.pinned (OpenSpec.ofChange digitsNumbersWrong)

/-- 'moneyerlaw01.DigitsBack': WHATEVER THE INPUT: true; the input reads as it did. -/
def digitsBackSpec : ChangeSpec := { name := "digitsBack", fn := fun _ => fun
  | [d1, d2, d3, d4] => { results := [.lit (.bool true)], args := [d1, d2, d3, d4] }
  | _ => none }
def digitsBackRow : OpenClaim := { program := "ytglajdedalikdaadoor", sum := "b72fd96712c02f0c4075032ae5fffa0553aafc28465919ac8794f8f68696262c", func := "moneyer/moneyerlaw01.DigitsBack", spec := "digitsBack", named := ["moneyer/digits.weights"], apart := false, laid := [("moneyer/digits.weights", laid_moneyer_digits_weights)] }
def DigitsBackSaid : Prop := digitsBackRow.holds Tryd.pinned (OpenSpec.ofChange digitsBackSpec)

/-- ITS FALSE NEIGHBOUR: 'it returns false'. Refute it at one input. -/
def digitsBackWrong : ChangeSpec := { name := "digitsBack", fn := fun _ => fun
  | [d1, d2, d3, d4] => { results := [.lit (.bool false)], args := [d1, d2, d3, d4] }
  | _ => none }
def DigitsBackWrongFalsely : Prop := digitsBackRow.holds Tryd.pinned (OpenSpec.ofChange digitsBackWrong)

/-- 'moneyerlaw01.DigitsTurned': WHATEVER THE INPUT: true; the input reads as it did. -/
def digitsTurnedSpec : ChangeSpec := { name := "digitsTurned", fn := fun _ => fun
  | [d1, d2, d3] => { results := [.lit (.bool true)], args := [d1, d2, d3] }
  | _ => none }
def digitsTurnedRow : OpenClaim := { program := "ytglajdedalikdaadoor", sum := "b72fd96712c02f0c4075032ae5fffa0553aafc28465919ac8794f8f68696262c", func := "moneyer/moneyerlaw01.DigitsTurned", spec := "digitsTurned", named := ["moneyer/digits.weights"], apart := false, laid := [("moneyer/digits.weights", laid_moneyer_digits_weights)] }
def DigitsTurnedSaid : Prop := digitsTurnedRow.holds Tryd.pinned (OpenSpec.ofChange digitsTurnedSpec)

/-- ITS FALSE NEIGHBOUR: 'it returns false'. Refute it at one input. -/
def digitsTurnedWrong : ChangeSpec := { name := "digitsTurned", fn := fun _ => fun
  | [d1, d2, d3] => { results := [.lit (.bool false)], args := [d1, d2, d3] }
  | _ => none }
def DigitsTurnedWrongFalsely : Prop := digitsTurnedRow.holds Tryd.pinned (OpenSpec.ofChange digitsTurnedWrong)

/-- 'moneyerlaw01.DigitsEnds': WHATEVER THE INPUT: true; the input reads as it did. -/
def digitsEndsSpec : ChangeSpec := { name := "digitsEnds", fn := fun _ => fun
  | [d] => { results := [.lit (.bool true)], args := [d] }
  | _ => none }
def digitsEndsRow : OpenClaim := { program := "ytglajdedalikdaadoor", sum := "b72fd96712c02f0c4075032ae5fffa0553aafc28465919ac8794f8f68696262c", func := "moneyer/moneyerlaw01.DigitsEnds", spec := "digitsEnds", named := ["moneyer/digits.weights"], apart := false, laid := [("moneyer/digits.weights", laid_moneyer_digits_weights)] }
def DigitsEndsSaid : Prop := digitsEndsRow.holds Tryd.pinned (OpenSpec.ofChange digitsEndsSpec)

/-- ITS FALSE NEIGHBOUR: 'it returns false'. Refute it at one input. -/
def digitsEndsWrong : ChangeSpec := { name := "digitsEnds", fn := fun _ => fun
  | [d] => { results := [.lit (.bool false)], args := [d] }
  | _ => none }
def DigitsEndsWrongFalsely : Prop := digitsEndsRow.holds Tryd.pinned (OpenSpec.ofChange digitsEndsWrong)

/- THE SECOND FORM. 'bulk': how many values and letters a reading holds, each counted each time it is reached (what is shared counts as often as it is met; a slice's spare places count too). A statement '..UptoSaid' is the law's where the arguments, and the package variables that the reading takes, are together of bulk at most 1048576: NARROWER than '..Said'. Prove '..Said' where nothing that the law and all that it calls make is longer than what came in: it says more and counts as full. Else prove '..UptoSaid'. A law counts once. -/
mutual
def uptoBulk {H : Type} : DataW H → Nat
  | .lit (.string bytes) => bytes.length + 1
  | .lit _ => 1
  | .nil => 1
  | .ptr d => uptoBulk d + 1
  | .slice elems spare => uptoBulkAll elems + uptoBulkAll spare + 1
  | .agg parts => uptoBulkAll parts + 1
  | .iface _ d => uptoBulk d + 1
  | .map entries => uptoBulkEntries entries + 1
  | .held _ => 1
def uptoBulkAll {H : Type} : List (DataW H) → Nat
  | [] => 0
  | d :: r => uptoBulk d + uptoBulkAll r
def uptoBulkEntries {H : Type} : List (Lit × DataW H) → Nat
  | [] => 0
  | x :: r => uptoBulkEntry x + uptoBulkEntries r
def uptoBulkEntry {H : Type} : Lit × DataW H → Nat
  | (.string bytes, d) => bytes.length + uptoBulk d + 1
  | (_, d) => uptoBulk d + 1
 end
def uptoSmall : (H : Type) → List (DataW H) → Bool := fun _ ds => decide (uptoBulkAll ds ≤ 1048576)
def OpenSpec.upto (s : _root_.Go.ChangeSpec) : _root_.Go.OpenSpec := { _root_.Go.OpenSpec.ofChange s with cond := some uptoSmall }

/-- 'moneyerlaw01.DigitsPacks', WHERE WHAT IT READS IS OF BULK AT MOST 1048576: true; the input reads as it did. -/
def digitsPacksUptoRow : OpenClaim := { program := "ytglajdedalikdaadoor", sum := "b72fd96712c02f0c4075032ae5fffa0553aafc28465919ac8794f8f68696262c", func := "moneyer/moneyerlaw01.DigitsPacks", spec := "digitsPacks", named := ["moneyer/digits.weights"], apart := false, laid := [("moneyer/digits.weights", laid_moneyer_digits_weights)], narrowed := true }
def DigitsPacksUptoSaid : Prop := digitsPacksUptoRow.holds Tryd.pinned (OpenSpec.upto digitsPacksSpec)

/-- 'moneyerlaw01.DigitsChecks', WHERE WHAT IT READS IS OF BULK AT MOST 1048576: true; the input reads as it did. -/
def digitsChecksUptoRow : OpenClaim := { program := "ytglajdedalikdaadoor", sum := "b72fd96712c02f0c4075032ae5fffa0553aafc28465919ac8794f8f68696262c", func := "moneyer/moneyerlaw01.DigitsChecks", spec := "digitsChecks", named := ["moneyer/digits.weights"], apart := false, laid := [("moneyer/digits.weights", laid_moneyer_digits_weights)], narrowed := true }
def DigitsChecksUptoSaid : Prop := digitsChecksUptoRow.holds Tryd.pinned (OpenSpec.upto digitsChecksSpec)

/-- 'moneyerlaw01.DigitsNumbers', WHERE WHAT IT READS IS OF BULK AT MOST 1048576: true; the input reads as it did. -/
def digitsNumbersUptoRow : OpenClaim := { program := "ytglajdedalikdaadoor", sum := "b72fd96712c02f0c4075032ae5fffa0553aafc28465919ac8794f8f68696262c", func := "moneyer/moneyerlaw01.DigitsNumbers", spec := "digitsNumbers", named := ["moneyer/digits.weights"], apart := false, laid := [("moneyer/digits.weights", laid_moneyer_digits_weights)], narrowed := true }
def DigitsNumbersUptoSaid : Prop := digitsNumbersUptoRow.holds Tryd.pinned (OpenSpec.upto digitsNumbersSpec)

/-- 'moneyerlaw01.DigitsBack', WHERE WHAT IT READS IS OF BULK AT MOST 1048576: true; the input reads as it did. -/
def digitsBackUptoRow : OpenClaim := { program := "ytglajdedalikdaadoor", sum := "b72fd96712c02f0c4075032ae5fffa0553aafc28465919ac8794f8f68696262c", func := "moneyer/moneyerlaw01.DigitsBack", spec := "digitsBack", named := ["moneyer/digits.weights"], apart := false, laid := [("moneyer/digits.weights", laid_moneyer_digits_weights)], narrowed := true }
def DigitsBackUptoSaid : Prop := digitsBackUptoRow.holds Tryd.pinned (OpenSpec.upto digitsBackSpec)

/-- 'moneyerlaw01.DigitsTurned', WHERE WHAT IT READS IS OF BULK AT MOST 1048576: true; the input reads as it did. -/
def digitsTurnedUptoRow : OpenClaim := { program := "ytglajdedalikdaadoor", sum := "b72fd96712c02f0c4075032ae5fffa0553aafc28465919ac8794f8f68696262c", func := "moneyer/moneyerlaw01.DigitsTurned", spec := "digitsTurned", named := ["moneyer/digits.weights"], apart := false, laid := [("moneyer/digits.weights", laid_moneyer_digits_weights)], narrowed := true }
def DigitsTurnedUptoSaid : Prop := digitsTurnedUptoRow.holds Tryd.pinned (OpenSpec.upto digitsTurnedSpec)

/-- 'moneyerlaw01.DigitsEnds', WHERE WHAT IT READS IS OF BULK AT MOST 1048576: true; the input reads as it did. -/
def digitsEndsUptoRow : OpenClaim := { program := "ytglajdedalikdaadoor", sum := "b72fd96712c02f0c4075032ae5fffa0553aafc28465919ac8794f8f68696262c", func := "moneyer/moneyerlaw01.DigitsEnds", spec := "digitsEnds", named := ["moneyer/digits.weights"], apart := false, laid := [("moneyer/digits.weights", laid_moneyer_digits_weights)], narrowed := true }
def DigitsEndsUptoSaid : Prop := digitsEndsUptoRow.holds Tryd.pinned (OpenSpec.upto digitsEndsSpec)

end Rows
end Go.Proofs.YtglajdedalikdaaDoor
