/-
  NARROWER THAN 'FOR EVERY INPUT', by the rows' own cells (each row's printed sentence says how): FfxMasks: laid · FfxBack: laid · FfxRounds: laid · FfxAgain: laid.
  DERIVED. THE GIVEN ROWS OF THIS SEAT. 4 by the template 'for every input the law returns true; each argument reads behind the call as it read before'; 0 by the template 'total and deterministic' (their statements: YtniaelaolmjkaaaDoorTotals.lean).
  GIVEN WITH THE SEED: the statements are not yours to turn. If you find one false, say at which input.
  Laid BY PROGRAM, IN A SANDBOX (cutbox-rows.mjs): the forced cells as the released guide's own fill.sh prints them over the translation 456f1a4a9ca777a1… (all of the seat's roots in one cut). By AI agents, Wed Nov 11 2026. No macro, syntax, notation, axiom, sorry.
-/
import Derived.Test.YtniaelaolmjkaaaDoorChecked
import GoSem.Claim
import GoSem.ClaimJoined
import GoSem.ClaimMapViews
import Derived.JoinedTies
import Derived.KernelRfl
namespace Go.Proofs.YtniaelaolmjkaaaDoor
/- THE CELL 'sum', in the pinned program and in every row, IS THE sha256 OF THE DUMP (.gsa) THAT YtniaelaolmjkaaaDoorProg.lean LOADS. Nothing in Lean hashes anything: it is a label: what it is worth is what the hold of that sum in a sandbox is worth. -/
noncomputable def Tryd.pinned : Pinned := { name := "ytniaelaolmjkaaadoor", sum := "456f1a4a9ca777a1c35ffadf8918fb42bf88c3880fb43b3a46c8ea3bc1f4a2ba", checked := Tryd.checked }
namespace Rows
def none {H : Type} : Left H := { results := [], args := [] }

/- WHAT THE LISTED PACKAGE-LEVEL VARIABLES READ AS WHEN THE CALL BEGINS. Each datum BY PROGRAM (the guide's laid-datum.mjs) off the statement by which the dump's own 'gosem.cut.vars' lays the variable. In a bare row this is a premise. The card (YtniaelaolmjkaaaDoorCards.lean) ties it to the program's text. -/
def laid_moneyer_radix_powers {H : Type} : DataW H := .agg [.lit (.int .i64 10), .lit (.int .i64 100), .lit (.int .i64 1000), .lit (.int .i64 10000), .lit (.int .i64 100000), .lit (.int .i64 1000000), .lit (.int .i64 10000000), .lit (.int .i64 100000000), .lit (.int .i64 1000000000), .lit (.int .i64 10000000000), .lit (.int .i64 100000000000), .lit (.int .i64 1000000000000), .lit (.int .i64 10000000000000), .lit (.int .i64 100000000000000), .lit (.int .i64 1000000000000000), .lit (.int .i64 10000000000000000)]

/-- 'moneyerlaw10.FfxMasks': WHATEVER THE INPUT: true; the input reads as it did. -/
def ffxMasksSpec : ChangeSpec := { name := "ffxMasks", fn := fun _ => fun
  | [d1, d2, d3, d4, d5] => { results := [.lit (.bool true)], args := [d1, d2, d3, d4, d5] }
  | _ => none }
def ffxMasksRow : OpenClaim := { program := "ytniaelaolmjkaaadoor", sum := "456f1a4a9ca777a1c35ffadf8918fb42bf88c3880fb43b3a46c8ea3bc1f4a2ba", func := "moneyer/moneyerlaw10.FfxMasks", spec := "ffxMasks", inPlace := ["sync/atomic.LoadUint32", "(*internal/sync.Mutex).Lock", "internal/race.Disable", "sync/atomic.CompareAndSwapInt32", "internal/race.Enable", "internal/race.Acquire", "(*internal/sync.Mutex).lockSlow", "internal/sync.runtime_canSpin", "internal/sync.runtime_doSpin", "internal/sync.throw", "internal/sync.runtime_nanotime", "internal/sync.runtime_SemacquireMutex", "sync/atomic.AddInt32", "(*internal/sync.Mutex).Unlock", "internal/race.ReleaseMerge", "(*internal/sync.Mutex).unlockSlow", "internal/sync.fatal", "internal/sync.runtime_Semrelease", "sync/atomic.StoreUint32"], unfollowed := true, recurses := true, named := ["moneyer/radix.powers"], apart := false, laid := [("moneyer/radix.powers", laid_moneyer_radix_powers)] }
def FfxMasksSaid : Prop := ffxMasksRow.holds Tryd.pinned (OpenSpec.ofChange ffxMasksSpec)

/-- ITS FALSE NEIGHBOUR: 'it returns false'. Refute it at one input. -/
def ffxMasksWrong : ChangeSpec := { name := "ffxMasks", fn := fun _ => fun
  | [d1, d2, d3, d4, d5] => { results := [.lit (.bool false)], args := [d1, d2, d3, d4, d5] }
  | _ => none }
def FfxMasksWrongFalsely : Prop := ffxMasksRow.holds Tryd.pinned (OpenSpec.ofChange ffxMasksWrong)

/-- 'moneyerlaw10.FfxBack': WHATEVER THE INPUT: true; the input reads as it did. -/
def ffxBackSpec : ChangeSpec := { name := "ffxBack", fn := fun _ => fun
  | [d1, d2, d3, d4] => { results := [.lit (.bool true)], args := [d1, d2, d3, d4] }
  | _ => none }
def ffxBackRow : OpenClaim := { program := "ytniaelaolmjkaaadoor", sum := "456f1a4a9ca777a1c35ffadf8918fb42bf88c3880fb43b3a46c8ea3bc1f4a2ba", func := "moneyer/moneyerlaw10.FfxBack", spec := "ffxBack", inPlace := ["sync/atomic.LoadUint32", "(*internal/sync.Mutex).Lock", "internal/race.Disable", "sync/atomic.CompareAndSwapInt32", "internal/race.Enable", "internal/race.Acquire", "(*internal/sync.Mutex).lockSlow", "internal/sync.runtime_canSpin", "internal/sync.runtime_doSpin", "internal/sync.throw", "internal/sync.runtime_nanotime", "internal/sync.runtime_SemacquireMutex", "sync/atomic.AddInt32", "(*internal/sync.Mutex).Unlock", "internal/race.ReleaseMerge", "(*internal/sync.Mutex).unlockSlow", "internal/sync.fatal", "internal/sync.runtime_Semrelease", "sync/atomic.StoreUint32"], unfollowed := true, recurses := true, named := ["moneyer/radix.powers"], apart := false, laid := [("moneyer/radix.powers", laid_moneyer_radix_powers)] }
def FfxBackSaid : Prop := ffxBackRow.holds Tryd.pinned (OpenSpec.ofChange ffxBackSpec)

/-- ITS FALSE NEIGHBOUR: 'it returns false'. Refute it at one input. -/
def ffxBackWrong : ChangeSpec := { name := "ffxBack", fn := fun _ => fun
  | [d1, d2, d3, d4] => { results := [.lit (.bool false)], args := [d1, d2, d3, d4] }
  | _ => none }
def FfxBackWrongFalsely : Prop := ffxBackRow.holds Tryd.pinned (OpenSpec.ofChange ffxBackWrong)

/-- 'moneyerlaw10.FfxRounds': WHATEVER THE INPUT: true; the input reads as it did. -/
def ffxRoundsSpec : ChangeSpec := { name := "ffxRounds", fn := fun _ => fun
  | [d1, d2, d3] => { results := [.lit (.bool true)], args := [d1, d2, d3] }
  | _ => none }
def ffxRoundsRow : OpenClaim := { program := "ytniaelaolmjkaaadoor", sum := "456f1a4a9ca777a1c35ffadf8918fb42bf88c3880fb43b3a46c8ea3bc1f4a2ba", func := "moneyer/moneyerlaw10.FfxRounds", spec := "ffxRounds", inPlace := ["sync/atomic.LoadUint32", "(*internal/sync.Mutex).Lock", "internal/race.Disable", "sync/atomic.CompareAndSwapInt32", "internal/race.Enable", "internal/race.Acquire", "(*internal/sync.Mutex).lockSlow", "internal/sync.runtime_canSpin", "internal/sync.runtime_doSpin", "internal/sync.throw", "internal/sync.runtime_nanotime", "internal/sync.runtime_SemacquireMutex", "sync/atomic.AddInt32", "(*internal/sync.Mutex).Unlock", "internal/race.ReleaseMerge", "(*internal/sync.Mutex).unlockSlow", "internal/sync.fatal", "internal/sync.runtime_Semrelease", "sync/atomic.StoreUint32"], unfollowed := true, recurses := true, named := ["moneyer/radix.powers"], apart := false, laid := [("moneyer/radix.powers", laid_moneyer_radix_powers)] }
def FfxRoundsSaid : Prop := ffxRoundsRow.holds Tryd.pinned (OpenSpec.ofChange ffxRoundsSpec)

/-- ITS FALSE NEIGHBOUR: 'it returns false'. Refute it at one input. -/
def ffxRoundsWrong : ChangeSpec := { name := "ffxRounds", fn := fun _ => fun
  | [d1, d2, d3] => { results := [.lit (.bool false)], args := [d1, d2, d3] }
  | _ => none }
def FfxRoundsWrongFalsely : Prop := ffxRoundsRow.holds Tryd.pinned (OpenSpec.ofChange ffxRoundsWrong)

/-- 'moneyerlaw10.FfxAgain': WHATEVER THE INPUT: true; the input reads as it did. -/
def ffxAgainSpec : ChangeSpec := { name := "ffxAgain", fn := fun _ => fun
  | [d1, d2, d3, d4] => { results := [.lit (.bool true)], args := [d1, d2, d3, d4] }
  | _ => none }
def ffxAgainRow : OpenClaim := { program := "ytniaelaolmjkaaadoor", sum := "456f1a4a9ca777a1c35ffadf8918fb42bf88c3880fb43b3a46c8ea3bc1f4a2ba", func := "moneyer/moneyerlaw10.FfxAgain", spec := "ffxAgain", inPlace := ["sync/atomic.LoadUint32", "(*internal/sync.Mutex).Lock", "internal/race.Disable", "sync/atomic.CompareAndSwapInt32", "internal/race.Enable", "internal/race.Acquire", "(*internal/sync.Mutex).lockSlow", "internal/sync.runtime_canSpin", "internal/sync.runtime_doSpin", "internal/sync.throw", "internal/sync.runtime_nanotime", "internal/sync.runtime_SemacquireMutex", "sync/atomic.AddInt32", "(*internal/sync.Mutex).Unlock", "internal/race.ReleaseMerge", "(*internal/sync.Mutex).unlockSlow", "internal/sync.fatal", "internal/sync.runtime_Semrelease", "sync/atomic.StoreUint32"], unfollowed := true, recurses := true, named := ["moneyer/radix.powers"], apart := false, laid := [("moneyer/radix.powers", laid_moneyer_radix_powers)] }
def FfxAgainSaid : Prop := ffxAgainRow.holds Tryd.pinned (OpenSpec.ofChange ffxAgainSpec)

/-- ITS FALSE NEIGHBOUR: 'it returns false'. Refute it at one input. -/
def ffxAgainWrong : ChangeSpec := { name := "ffxAgain", fn := fun _ => fun
  | [d1, d2, d3, d4] => { results := [.lit (.bool false)], args := [d1, d2, d3, d4] }
  | _ => none }
def FfxAgainWrongFalsely : Prop := ffxAgainRow.holds Tryd.pinned (OpenSpec.ofChange ffxAgainWrong)

/- THE SECOND FORM. 'bulk': how many values and letters a reading holds, each counted each time it is reached (what is shared counts as often as it is met; a slice's spare places count too). A statement '..UptoSaid' is the law's where the arguments, and the package variables that the reading takes, are together of bulk at most 1048576: NARROWER than '..Said'. Prove '..Said' where nothing that the law and all that it calls make is longer than what came in: it says more and counts as full. Else prove '..UptoSaid'. A law counts once. -/
mutual
def uptoBulk {H : Type} : DataW H → Nat
  | .lit (.string bytes) => bytes.length + 1
  | .lit _ => 1
  | .nil => 1
  | .ptr d => uptoBulk d + 1
  | .slice elems spare => uptoBulkAll elems + uptoBulkAll spare + 1
  | .agg parts => uptoBulkAll parts + 1
  | .iface _ d => uptoBulk d + 1
  | .map entries => uptoBulkEntries entries + 1
  | .held _ => 1
def uptoBulkAll {H : Type} : List (DataW H) → Nat
  | [] => 0
  | d :: r => uptoBulk d + uptoBulkAll r
def uptoBulkEntries {H : Type} : List (Lit × DataW H) → Nat
  | [] => 0
  | x :: r => uptoBulkEntry x + uptoBulkEntries r
def uptoBulkEntry {H : Type} : Lit × DataW H → Nat
  | (.string bytes, d) => bytes.length + uptoBulk d + 1
  | (_, d) => uptoBulk d + 1
 end
def uptoSmall : (H : Type) → List (DataW H) → Bool := fun _ ds => decide (uptoBulkAll ds ≤ 1048576)
def OpenSpec.upto (s : _root_.Go.ChangeSpec) : _root_.Go.OpenSpec := { _root_.Go.OpenSpec.ofChange s with cond := some uptoSmall }

/-- 'moneyerlaw10.FfxMasks', WHERE WHAT IT READS IS OF BULK AT MOST 1048576: true; the input reads as it did. -/
def ffxMasksUptoRow : OpenClaim := { program := "ytniaelaolmjkaaadoor", sum := "456f1a4a9ca777a1c35ffadf8918fb42bf88c3880fb43b3a46c8ea3bc1f4a2ba", func := "moneyer/moneyerlaw10.FfxMasks", spec := "ffxMasks", inPlace := ["sync/atomic.LoadUint32", "(*internal/sync.Mutex).Lock", "internal/race.Disable", "sync/atomic.CompareAndSwapInt32", "internal/race.Enable", "internal/race.Acquire", "(*internal/sync.Mutex).lockSlow", "internal/sync.runtime_canSpin", "internal/sync.runtime_doSpin", "internal/sync.throw", "internal/sync.runtime_nanotime", "internal/sync.runtime_SemacquireMutex", "sync/atomic.AddInt32", "(*internal/sync.Mutex).Unlock", "internal/race.ReleaseMerge", "(*internal/sync.Mutex).unlockSlow", "internal/sync.fatal", "internal/sync.runtime_Semrelease", "sync/atomic.StoreUint32"], unfollowed := true, recurses := true, named := ["moneyer/radix.powers"], apart := false, laid := [("moneyer/radix.powers", laid_moneyer_radix_powers)], narrowed := true }
def FfxMasksUptoSaid : Prop := ffxMasksUptoRow.holds Tryd.pinned (OpenSpec.upto ffxMasksSpec)

/-- 'moneyerlaw10.FfxBack', WHERE WHAT IT READS IS OF BULK AT MOST 1048576: true; the input reads as it did. -/
def ffxBackUptoRow : OpenClaim := { program := "ytniaelaolmjkaaadoor", sum := "456f1a4a9ca777a1c35ffadf8918fb42bf88c3880fb43b3a46c8ea3bc1f4a2ba", func := "moneyer/moneyerlaw10.FfxBack", spec := "ffxBack", inPlace := ["sync/atomic.LoadUint32", "(*internal/sync.Mutex).Lock", "internal/race.Disable", "sync/atomic.CompareAndSwapInt32", "internal/race.Enable", "internal/race.Acquire", "(*internal/sync.Mutex).lockSlow", "internal/sync.runtime_canSpin", "internal/sync.runtime_doSpin", "internal/sync.throw", "internal/sync.runtime_nanotime", "internal/sync.runtime_SemacquireMutex", "sync/atomic.AddInt32", "(*internal/sync.Mutex).Unlock", "internal/race.ReleaseMerge", "(*internal/sync.Mutex).unlockSlow", "internal/sync.fatal", "internal/sync.runtime_Semrelease", "sync/atomic.StoreUint32"], unfollowed := true, recurses := true, named := ["moneyer/radix.powers"], apart := false, laid := [("moneyer/radix.powers", laid_moneyer_radix_powers)], narrowed := true }
def FfxBackUptoSaid : Prop := ffxBackUptoRow.holds Tryd.pinned (OpenSpec.upto ffxBackSpec)

/-- 'moneyerlaw10.FfxRounds', WHERE WHAT IT READS IS OF BULK AT MOST 1048576: true; the input reads as it did. -/
def ffxRoundsUptoRow : OpenClaim := { program := "ytniaelaolmjkaaadoor", sum := "456f1a4a9ca777a1c35ffadf8918fb42bf88c3880fb43b3a46c8ea3bc1f4a2ba", func := "moneyer/moneyerlaw10.FfxRounds", spec := "ffxRounds", inPlace := ["sync/atomic.LoadUint32", "(*internal/sync.Mutex).Lock", "internal/race.Disable", "sync/atomic.CompareAndSwapInt32", "internal/race.Enable", "internal/race.Acquire", "(*internal/sync.Mutex).lockSlow", "internal/sync.runtime_canSpin", "internal/sync.runtime_doSpin", "internal/sync.throw", "internal/sync.runtime_nanotime", "internal/sync.runtime_SemacquireMutex", "sync/atomic.AddInt32", "(*internal/sync.Mutex).Unlock", "internal/race.ReleaseMerge", "(*internal/sync.Mutex).unlockSlow", "internal/sync.fatal", "internal/sync.runtime_Semrelease", "sync/atomic.StoreUint32"], unfollowed := true, recurses := true, named := ["moneyer/radix.powers"], apart := false, laid := [("moneyer/radix.powers", laid_moneyer_radix_powers)], narrowed := true }
def FfxRoundsUptoSaid : Prop := ffxRoundsUptoRow.holds Tryd.pinned (OpenSpec.upto ffxRoundsSpec)

/-- 'moneyerlaw10.FfxAgain', WHERE WHAT IT READS IS OF BULK AT MOST 1048576: true; the input reads as it did. -/
def ffxAgainUptoRow : OpenClaim := { program := "ytniaelaolmjkaaadoor", sum := "456f1a4a9ca777a1c35ffadf8918fb42bf88c3880fb43b3a46c8ea3bc1f4a2ba", func := "moneyer/moneyerlaw10.FfxAgain", spec := "ffxAgain", inPlace := ["sync/atomic.LoadUint32", "(*internal/sync.Mutex).Lock", "internal/race.Disable", "sync/atomic.CompareAndSwapInt32", "internal/race.Enable", "internal/race.Acquire", "(*internal/sync.Mutex).lockSlow", "internal/sync.runtime_canSpin", "internal/sync.runtime_doSpin", "internal/sync.throw", "internal/sync.runtime_nanotime", "internal/sync.runtime_SemacquireMutex", "sync/atomic.AddInt32", "(*internal/sync.Mutex).Unlock", "internal/race.ReleaseMerge", "(*internal/sync.Mutex).unlockSlow", "internal/sync.fatal", "internal/sync.runtime_Semrelease", "sync/atomic.StoreUint32"], unfollowed := true, recurses := true, named := ["moneyer/radix.powers"], apart := false, laid := [("moneyer/radix.powers", laid_moneyer_radix_powers)], narrowed := true }
def FfxAgainUptoSaid : Prop := ffxAgainUptoRow.holds Tryd.pinned (OpenSpec.upto ffxAgainSpec)

end Rows
end Go.Proofs.YtniaelaolmjkaaaDoor
