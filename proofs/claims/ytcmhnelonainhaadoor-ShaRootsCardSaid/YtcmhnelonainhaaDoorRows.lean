/-
  NARROWER THAN 'FOR EVERY INPUT', by the rows' own cells (each row's printed sentence says how): ShaSums: laid · ShaWords: laid · ShaGoes: laid · ShaCuts: laid · ShaRoots: laid · ShaPairs: laid · ShaEmpty: laid.
  DERIVED. THE GIVEN ROWS OF THIS SEAT. 7 by the template 'for every input the law returns true; each argument reads behind the call as it read before'; 0 by the template 'total and deterministic' (their statements: YtcmhnelonainhaaDoorTotals.lean).
  GIVEN WITH THE SEED: the statements are not yours to turn. If you find one false, say at which input.
  Laid BY PROGRAM, IN A SANDBOX (cutbox-rows.mjs): the forced cells as the released guide's own fill.sh prints them over the translation a06d0d4a8612a537… (all of the seat's roots in one cut). By AI agents, Wed Nov 11 2026. No macro, syntax, notation, axiom, sorry.
-/
import Derived.Test.YtcmhnelonainhaaDoorChecked
import GoSem.Claim
import GoSem.ClaimJoined
import GoSem.ClaimMapViews
import Derived.JoinedTies
import Derived.KernelRfl
namespace Go.Proofs.YtcmhnelonainhaaDoor
/- THE CELL 'sum', in the pinned program and in every row, IS THE sha256 OF THE DUMP (.gsa) THAT YtcmhnelonainhaaDoorProg.lean LOADS. Nothing in Lean hashes anything: it is a label: what it is worth is what the hold of that sum in a sandbox is worth. -/
noncomputable def Tryd.pinned : Pinned := { name := "ytcmhnelonainhaadoor", sum := "a06d0d4a8612a537bb0a7d31fb8abee9c8b4a1282169a627f8ad040d8416feaf", checked := Tryd.checked }
namespace Rows
def none {H : Type} : Left H := { results := [], args := [] }

/- WHAT THE LISTED PACKAGE-LEVEL VARIABLES READ AS WHEN THE CALL BEGINS. Each datum BY PROGRAM (the guide's laid-datum.mjs) off the statement by which the dump's own 'gosem.cut.vars' lays the variable. In a bare row this is a premise. The card (YtcmhnelonainhaaDoorCards.lean) ties it to the program's text. -/
def laid_moneyer_sha_roundWords {H : Type} : DataW H := .agg [.lit (.int .u32 1116352408), .lit (.int .u32 1899447441), .lit (.int .u32 3049323471), .lit (.int .u32 3921009573), .lit (.int .u32 961987163), .lit (.int .u32 1508970993), .lit (.int .u32 2453635748), .lit (.int .u32 2870763221), .lit (.int .u32 3624381080), .lit (.int .u32 310598401), .lit (.int .u32 607225278), .lit (.int .u32 1426881987), .lit (.int .u32 1925078388), .lit (.int .u32 2162078206), .lit (.int .u32 2614888103), .lit (.int .u32 3248222580), .lit (.int .u32 3835390401), .lit (.int .u32 4022224774), .lit (.int .u32 264347078), .lit (.int .u32 604807628), .lit (.int .u32 770255983), .lit (.int .u32 1249150122), .lit (.int .u32 1555081692), .lit (.int .u32 1996064986), .lit (.int .u32 2554220882), .lit (.int .u32 2821834349), .lit (.int .u32 2952996808), .lit (.int .u32 3210313671), .lit (.int .u32 3336571891), .lit (.int .u32 3584528711), .lit (.int .u32 113926993), .lit (.int .u32 338241895), .lit (.int .u32 666307205), .lit (.int .u32 773529912), .lit (.int .u32 1294757372), .lit (.int .u32 1396182291), .lit (.int .u32 1695183700), .lit (.int .u32 1986661051), .lit (.int .u32 2177026350), .lit (.int .u32 2456956037), .lit (.int .u32 2730485921), .lit (.int .u32 2820302411), .lit (.int .u32 3259730800), .lit (.int .u32 3345764771), .lit (.int .u32 3516065817), .lit (.int .u32 3600352804), .lit (.int .u32 4094571909), .lit (.int .u32 275423344), .lit (.int .u32 430227734), .lit (.int .u32 506948616), .lit (.int .u32 659060556), .lit (.int .u32 883997877), .lit (.int .u32 958139571), .lit (.int .u32 1322822218), .lit (.int .u32 1537002063), .lit (.int .u32 1747873779), .lit (.int .u32 1955562222), .lit (.int .u32 2024104815), .lit (.int .u32 2227730452), .lit (.int .u32 2361852424), .lit (.int .u32 2428436474), .lit (.int .u32 2756734187), .lit (.int .u32 3204031479), .lit (.int .u32 3329325298)]
def laid_moneyer_sha_startWords {H : Type} : DataW H := .agg [.lit (.int .u32 1779033703), .lit (.int .u32 3144134277), .lit (.int .u32 1013904242), .lit (.int .u32 2773480762), .lit (.int .u32 1359893119), .lit (.int .u32 2600822924), .lit (.int .u32 528734635), .lit (.int .u32 1541459225)]

/-- 'moneyerlaw05.ShaSums': WHATEVER THE INPUT: true; the input reads as it did. -/
def shaSumsSpec : ChangeSpec := { name := "shaSums", fn := fun _ => fun
  | [d1, d2] => { results := [.lit (.bool true)], args := [d1, d2] }
  | _ => none }
def shaSumsRow : OpenClaim := { program := "ytcmhnelonainhaadoor", sum := "a06d0d4a8612a537bb0a7d31fb8abee9c8b4a1282169a627f8ad040d8416feaf", func := "moneyer/moneyerlaw05.ShaSums", spec := "shaSums", named := ["moneyer/sha.startWords", "moneyer/sha.roundWords"], apart := false, laid := [("moneyer/sha.roundWords", laid_moneyer_sha_roundWords), ("moneyer/sha.startWords", laid_moneyer_sha_startWords)] }
def ShaSumsSaid : Prop := shaSumsRow.holds Tryd.pinned (OpenSpec.ofChange shaSumsSpec)

/-- ITS FALSE NEIGHBOUR: 'it returns false'. Refute it at one input. -/
def shaSumsWrong : ChangeSpec := { name := "shaSums", fn := fun _ => fun
  | [d1, d2] => { results := [.lit (.bool false)], args := [d1, d2] }
  | _ => none }
def ShaSumsWrongFalsely : Prop := shaSumsRow.holds Tryd.pinned (OpenSpec.ofChange shaSumsWrong)

/-- 'moneyerlaw05.ShaWords': WHATEVER THE INPUT: true; the input reads as it did. -/
def shaWordsSpec : ChangeSpec := { name := "shaWords", fn := fun _ => fun
  | [d] => { results := [.lit (.bool true)], args := [d] }
  | _ => none }
def shaWordsRow : OpenClaim := { program := "ytcmhnelonainhaadoor", sum := "a06d0d4a8612a537bb0a7d31fb8abee9c8b4a1282169a627f8ad040d8416feaf", func := "moneyer/moneyerlaw05.ShaWords", spec := "shaWords", named := ["moneyer/sha.startWords", "moneyer/sha.roundWords"], apart := false, laid := [("moneyer/sha.roundWords", laid_moneyer_sha_roundWords), ("moneyer/sha.startWords", laid_moneyer_sha_startWords)] }
def ShaWordsSaid : Prop := shaWordsRow.holds Tryd.pinned (OpenSpec.ofChange shaWordsSpec)

/-- ITS FALSE NEIGHBOUR: 'it returns false'. Refute it at one input. -/
def shaWordsWrong : ChangeSpec := { name := "shaWords", fn := fun _ => fun
  | [d] => { results := [.lit (.bool false)], args := [d] }
  | _ => none }
def ShaWordsWrongFalsely : Prop := shaWordsRow.holds Tryd.pinned (OpenSpec.ofChange shaWordsWrong)

/-- 'moneyerlaw05.ShaGoes': WHATEVER THE INPUT: true; the input reads as it did. -/
def shaGoesSpec : ChangeSpec := { name := "shaGoes", fn := fun _ => fun
  | [d] => { results := [.lit (.bool true)], args := [d] }
  | _ => none }
def shaGoesRow : OpenClaim := { program := "ytcmhnelonainhaadoor", sum := "a06d0d4a8612a537bb0a7d31fb8abee9c8b4a1282169a627f8ad040d8416feaf", func := "moneyer/moneyerlaw05.ShaGoes", spec := "shaGoes", named := ["moneyer/sha.startWords", "moneyer/sha.roundWords"], apart := false, laid := [("moneyer/sha.roundWords", laid_moneyer_sha_roundWords), ("moneyer/sha.startWords", laid_moneyer_sha_startWords)] }
def ShaGoesSaid : Prop := shaGoesRow.holds Tryd.pinned (OpenSpec.ofChange shaGoesSpec)

/-- ITS FALSE NEIGHBOUR: 'it returns false'. Refute it at one input. -/
def shaGoesWrong : ChangeSpec := { name := "shaGoes", fn := fun _ => fun
  | [d] => { results := [.lit (.bool false)], args := [d] }
  | _ => none }
def ShaGoesWrongFalsely : Prop := shaGoesRow.holds Tryd.pinned (OpenSpec.ofChange shaGoesWrong)

/-- 'moneyerlaw05.ShaCuts': WHATEVER THE INPUT: true; the input reads as it did. -/
def shaCutsSpec : ChangeSpec := { name := "shaCuts", fn := fun _ => fun
  | [d1, d2, d3] => { results := [.lit (.bool true)], args := [d1, d2, d3] }
  | _ => none }
def shaCutsRow : OpenClaim := { program := "ytcmhnelonainhaadoor", sum := "a06d0d4a8612a537bb0a7d31fb8abee9c8b4a1282169a627f8ad040d8416feaf", func := "moneyer/moneyerlaw05.ShaCuts", spec := "shaCuts", named := ["moneyer/sha.startWords", "moneyer/sha.roundWords"], apart := false, laid := [("moneyer/sha.roundWords", laid_moneyer_sha_roundWords), ("moneyer/sha.startWords", laid_moneyer_sha_startWords)] }
def ShaCutsSaid : Prop := shaCutsRow.holds Tryd.pinned (OpenSpec.ofChange shaCutsSpec)

/-- ITS FALSE NEIGHBOUR: 'it returns false'. Refute it at one input. -/
def shaCutsWrong : ChangeSpec := { name := "shaCuts", fn := fun _ => fun
  | [d1, d2, d3] => { results := [.lit (.bool false)], args := [d1, d2, d3] }
  | _ => none }
def ShaCutsWrongFalsely : Prop := shaCutsRow.holds Tryd.pinned (OpenSpec.ofChange shaCutsWrong)

/-- 'moneyerlaw05.ShaRoots': WHATEVER THE INPUT: true; the input reads as it did. -/
def shaRootsSpec : ChangeSpec := { name := "shaRoots", fn := fun _ => fun
  | [d] => { results := [.lit (.bool true)], args := [d] }
  | _ => none }
def shaRootsRow : OpenClaim := { program := "ytcmhnelonainhaadoor", sum := "a06d0d4a8612a537bb0a7d31fb8abee9c8b4a1282169a627f8ad040d8416feaf", func := "moneyer/moneyerlaw05.ShaRoots", spec := "shaRoots", named := ["moneyer/sha.startWords", "moneyer/sha.roundWords"], apart := false, laid := [("moneyer/sha.roundWords", laid_moneyer_sha_roundWords), ("moneyer/sha.startWords", laid_moneyer_sha_startWords)] }
def ShaRootsSaid : Prop := shaRootsRow.holds Tryd.pinned (OpenSpec.ofChange shaRootsSpec)

/-- ITS FALSE NEIGHBOUR: 'it returns false'. Refute it at one input. -/
def shaRootsWrong : ChangeSpec := { name := "shaRoots", fn := fun _ => fun
  | [d] => { results := [.lit (.bool false)], args := [d] }
  | _ => none }
def ShaRootsWrongFalsely : Prop := shaRootsRow.holds Tryd.pinned (OpenSpec.ofChange shaRootsWrong)

/-- 'moneyerlaw05.ShaPairs': WHATEVER THE INPUT: true; the input reads as it did. -/
def shaPairsSpec : ChangeSpec := { name := "shaPairs", fn := fun _ => fun
  | [d1, d2] => { results := [.lit (.bool true)], args := [d1, d2] }
  | _ => none }
def shaPairsRow : OpenClaim := { program := "ytcmhnelonainhaadoor", sum := "a06d0d4a8612a537bb0a7d31fb8abee9c8b4a1282169a627f8ad040d8416feaf", func := "moneyer/moneyerlaw05.ShaPairs", spec := "shaPairs", named := ["moneyer/sha.startWords", "moneyer/sha.roundWords"], apart := false, laid := [("moneyer/sha.roundWords", laid_moneyer_sha_roundWords), ("moneyer/sha.startWords", laid_moneyer_sha_startWords)] }
def ShaPairsSaid : Prop := shaPairsRow.holds Tryd.pinned (OpenSpec.ofChange shaPairsSpec)

/-- ITS FALSE NEIGHBOUR: 'it returns false'. Refute it at one input. -/
def shaPairsWrong : ChangeSpec := { name := "shaPairs", fn := fun _ => fun
  | [d1, d2] => { results := [.lit (.bool false)], args := [d1, d2] }
  | _ => none }
def ShaPairsWrongFalsely : Prop := shaPairsRow.holds Tryd.pinned (OpenSpec.ofChange shaPairsWrong)

/-- 'moneyerlaw05.ShaEmpty': WHATEVER THE INPUT: true; the input reads as it did. -/
def shaEmptySpec : ChangeSpec := { name := "shaEmpty", fn := fun _ => fun
  | [d1, d2] => { results := [.lit (.bool true)], args := [d1, d2] }
  | _ => none }
def shaEmptyRow : OpenClaim := { program := "ytcmhnelonainhaadoor", sum := "a06d0d4a8612a537bb0a7d31fb8abee9c8b4a1282169a627f8ad040d8416feaf", func := "moneyer/moneyerlaw05.ShaEmpty", spec := "shaEmpty", named := ["moneyer/sha.startWords", "moneyer/sha.roundWords"], apart := false, laid := [("moneyer/sha.roundWords", laid_moneyer_sha_roundWords), ("moneyer/sha.startWords", laid_moneyer_sha_startWords)] }
def ShaEmptySaid : Prop := shaEmptyRow.holds Tryd.pinned (OpenSpec.ofChange shaEmptySpec)

/-- ITS FALSE NEIGHBOUR: 'it returns false'. Refute it at one input. -/
def shaEmptyWrong : ChangeSpec := { name := "shaEmpty", fn := fun _ => fun
  | [d1, d2] => { results := [.lit (.bool false)], args := [d1, d2] }
  | _ => none }
def ShaEmptyWrongFalsely : Prop := shaEmptyRow.holds Tryd.pinned (OpenSpec.ofChange shaEmptyWrong)

/- THE SECOND FORM. 'bulk': how many values and letters a reading holds, each counted each time it is reached (what is shared counts as often as it is met; a slice's spare places count too). A statement '..UptoSaid' is the law's where the arguments, and the package variables that the reading takes, are together of bulk at most 1048576: NARROWER than '..Said'. Prove '..Said' where nothing that the law and all that it calls make is longer than what came in: it says more and counts as full. Else prove '..UptoSaid'. A law counts once. -/
mutual
def uptoBulk {H : Type} : DataW H → Nat
  | .lit (.string bytes) => bytes.length + 1
  | .lit _ => 1
  | .nil => 1
  | .ptr d => uptoBulk d + 1
  | .slice elems spare => uptoBulkAll elems + uptoBulkAll spare + 1
  | .agg parts => uptoBulkAll parts + 1
  | .iface _ d => uptoBulk d + 1
  | .map entries => uptoBulkEntries entries + 1
  | .held _ => 1
def uptoBulkAll {H : Type} : List (DataW H) → Nat
  | [] => 0
  | d :: r => uptoBulk d + uptoBulkAll r
def uptoBulkEntries {H : Type} : List (Lit × DataW H) → Nat
  | [] => 0
  | x :: r => uptoBulkEntry x + uptoBulkEntries r
def uptoBulkEntry {H : Type} : Lit × DataW H → Nat
  | (.string bytes, d) => bytes.length + uptoBulk d + 1
  | (_, d) => uptoBulk d + 1
 end
def uptoSmall : (H : Type) → List (DataW H) → Bool := fun _ ds => decide (uptoBulkAll ds ≤ 1048576)
def OpenSpec.upto (s : _root_.Go.ChangeSpec) : _root_.Go.OpenSpec := { _root_.Go.OpenSpec.ofChange s with cond := some uptoSmall }

/-- 'moneyerlaw05.ShaSums', WHERE WHAT IT READS IS OF BULK AT MOST 1048576: true; the input reads as it did. -/
def shaSumsUptoRow : OpenClaim := { program := "ytcmhnelonainhaadoor", sum := "a06d0d4a8612a537bb0a7d31fb8abee9c8b4a1282169a627f8ad040d8416feaf", func := "moneyer/moneyerlaw05.ShaSums", spec := "shaSums", named := ["moneyer/sha.startWords", "moneyer/sha.roundWords"], apart := false, laid := [("moneyer/sha.roundWords", laid_moneyer_sha_roundWords), ("moneyer/sha.startWords", laid_moneyer_sha_startWords)], narrowed := true }
def ShaSumsUptoSaid : Prop := shaSumsUptoRow.holds Tryd.pinned (OpenSpec.upto shaSumsSpec)

/-- 'moneyerlaw05.ShaWords', WHERE WHAT IT READS IS OF BULK AT MOST 1048576: true; the input reads as it did. -/
def shaWordsUptoRow : OpenClaim := { program := "ytcmhnelonainhaadoor", sum := "a06d0d4a8612a537bb0a7d31fb8abee9c8b4a1282169a627f8ad040d8416feaf", func := "moneyer/moneyerlaw05.ShaWords", spec := "shaWords", named := ["moneyer/sha.startWords", "moneyer/sha.roundWords"], apart := false, laid := [("moneyer/sha.roundWords", laid_moneyer_sha_roundWords), ("moneyer/sha.startWords", laid_moneyer_sha_startWords)], narrowed := true }
def ShaWordsUptoSaid : Prop := shaWordsUptoRow.holds Tryd.pinned (OpenSpec.upto shaWordsSpec)

/-- 'moneyerlaw05.ShaGoes', WHERE WHAT IT READS IS OF BULK AT MOST 1048576: true; the input reads as it did. -/
def shaGoesUptoRow : OpenClaim := { program := "ytcmhnelonainhaadoor", sum := "a06d0d4a8612a537bb0a7d31fb8abee9c8b4a1282169a627f8ad040d8416feaf", func := "moneyer/moneyerlaw05.ShaGoes", spec := "shaGoes", named := ["moneyer/sha.startWords", "moneyer/sha.roundWords"], apart := false, laid := [("moneyer/sha.roundWords", laid_moneyer_sha_roundWords), ("moneyer/sha.startWords", laid_moneyer_sha_startWords)], narrowed := true }
def ShaGoesUptoSaid : Prop := shaGoesUptoRow.holds Tryd.pinned (OpenSpec.upto shaGoesSpec)

/-- 'moneyerlaw05.ShaCuts', WHERE WHAT IT READS IS OF BULK AT MOST 1048576: true; the input reads as it did. -/
def shaCutsUptoRow : OpenClaim := { program := "ytcmhnelonainhaadoor", sum := "a06d0d4a8612a537bb0a7d31fb8abee9c8b4a1282169a627f8ad040d8416feaf", func := "moneyer/moneyerlaw05.ShaCuts", spec := "shaCuts", named := ["moneyer/sha.startWords", "moneyer/sha.roundWords"], apart := false, laid := [("moneyer/sha.roundWords", laid_moneyer_sha_roundWords), ("moneyer/sha.startWords", laid_moneyer_sha_startWords)], narrowed := true }
def ShaCutsUptoSaid : Prop := shaCutsUptoRow.holds Tryd.pinned (OpenSpec.upto shaCutsSpec)

/-- 'moneyerlaw05.ShaRoots', WHERE WHAT IT READS IS OF BULK AT MOST 1048576: true; the input reads as it did. -/
def shaRootsUptoRow : OpenClaim := { program := "ytcmhnelonainhaadoor", sum := "a06d0d4a8612a537bb0a7d31fb8abee9c8b4a1282169a627f8ad040d8416feaf", func := "moneyer/moneyerlaw05.ShaRoots", spec := "shaRoots", named := ["moneyer/sha.startWords", "moneyer/sha.roundWords"], apart := false, laid := [("moneyer/sha.roundWords", laid_moneyer_sha_roundWords), ("moneyer/sha.startWords", laid_moneyer_sha_startWords)], narrowed := true }
def ShaRootsUptoSaid : Prop := shaRootsUptoRow.holds Tryd.pinned (OpenSpec.upto shaRootsSpec)

/-- 'moneyerlaw05.ShaPairs', WHERE WHAT IT READS IS OF BULK AT MOST 1048576: true; the input reads as it did. -/
def shaPairsUptoRow : OpenClaim := { program := "ytcmhnelonainhaadoor", sum := "a06d0d4a8612a537bb0a7d31fb8abee9c8b4a1282169a627f8ad040d8416feaf", func := "moneyer/moneyerlaw05.ShaPairs", spec := "shaPairs", named := ["moneyer/sha.startWords", "moneyer/sha.roundWords"], apart := false, laid := [("moneyer/sha.roundWords", laid_moneyer_sha_roundWords), ("moneyer/sha.startWords", laid_moneyer_sha_startWords)], narrowed := true }
def ShaPairsUptoSaid : Prop := shaPairsUptoRow.holds Tryd.pinned (OpenSpec.upto shaPairsSpec)

/-- 'moneyerlaw05.ShaEmpty', WHERE WHAT IT READS IS OF BULK AT MOST 1048576: true; the input reads as it did. -/
def shaEmptyUptoRow : OpenClaim := { program := "ytcmhnelonainhaadoor", sum := "a06d0d4a8612a537bb0a7d31fb8abee9c8b4a1282169a627f8ad040d8416feaf", func := "moneyer/moneyerlaw05.ShaEmpty", spec := "shaEmpty", named := ["moneyer/sha.startWords", "moneyer/sha.roundWords"], apart := false, laid := [("moneyer/sha.roundWords", laid_moneyer_sha_roundWords), ("moneyer/sha.startWords", laid_moneyer_sha_startWords)], narrowed := true }
def ShaEmptyUptoSaid : Prop := shaEmptyUptoRow.holds Tryd.pinned (OpenSpec.upto shaEmptySpec)

end Rows
end Go.Proofs.YtcmhnelonainhaaDoor
