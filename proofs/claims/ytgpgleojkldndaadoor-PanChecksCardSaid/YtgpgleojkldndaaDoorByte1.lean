/- A row of one byte, and its text. -/
import Derived.Test.YtgpgleojkldndaaDoorBase
namespace Go.Proofs.YtgpgleojkldndaaDoor
open Go.RowKit

theorem conv1c (x : Int) (W : World) (B : Nat) (h : W.cell? ⟨B, 0, none⟩ = some (.int .u8 x)) :
    (convert 33 9 (.slice (some ⟨B, 0, none⟩) 1 1)).run Tryd.prog W = .ok (.string ⟨#[chr x.toNat]⟩) W :=
  run_convert_bytes_arg _ _ _ Tryd.underlying33 Tryd.underlying5 _ 0 1 1 [x] rfl (fun i hi => by
    obtain rfl : i = 0 := by omega
    exact h) _ Tryd.underlying9

theorem run_byte1 (w : World) (x : Int) : (Instr.buildSlice 33 1 #[(0, .int .u8 x)]).run Tryd.prog w = .ok (.slice (some ⟨w.heap.size, 0, none⟩) 1 1) (w.alloc (.cells #[.int .u8 x] 5)) := by
  go_simp

theorem run_str_lo (s : ByteArray) (k : Nat) (h : k ≤ s.size) (W : World) : (Instr.sliceAt 9 (.string s) none (some (.int .i64 (k : Nat))) none).run Tryd.prog W = .ok (.string (s.extract 0 k)) W := by go_simp

theorem below_of_drew {w w' : World} (h : Below w.drew.heap.size w.drew w') : Below w.heap.size w w' := ⟨h.os, h.tape, h.output, h.size, h.block⟩
end Go.Proofs.YtgpgleojkldndaaDoor
