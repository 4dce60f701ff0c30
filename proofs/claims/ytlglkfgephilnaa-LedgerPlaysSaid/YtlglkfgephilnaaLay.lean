/- What a law's last step asks of the program, where no package variable is laid. -/
import Derived.Test.YtlglkfgephilnaaKit
namespace Go.Proofs.Ytlglkfgephilnaa
open Go.ChangeShapes Go.WideShapes Go.ChangeAt Go.RowKit
theorem own : ownKnob Try.prog.godebug = none := by kernel_rfl
theorem laidOut : laidOutB Try.prog = true := by kernel_rfl
/-- a world for the witness: the settled one -/
noncomputable def laidWorld (os : Os) : World := World.holding Try.prog os ⟨#[], #[], []⟩
end Go.Proofs.Ytlglkfgephilnaa
