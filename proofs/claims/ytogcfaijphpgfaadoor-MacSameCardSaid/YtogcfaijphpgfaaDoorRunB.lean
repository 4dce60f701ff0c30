/- Runs of single operations on bytes and ints. -/
import Derived.Test.YtogcfaijphpgfaaDoorRef05D
namespace Go.Proofs.YtogcfaijphpgfaaDoor
open Go.RowKit
namespace ord
section
variable {P : Program} {ops : Array Oper} {o : Oper} {a : Act} {w : World} {N : Value → World → Prop}
theorem makes_build4 {t : TypeId} {len i1 i2 i3 i4 : Nat} {o1 o2 o3 o4 : Operand} {v1 v2 v3 v4 u : Value} {w' : World} (ho : o.op = .buildSlice t len #[(i1, o1), (i2, o2), (i3, o3), (i4, o4)]) (h1 : a.eval o1 = v1) (h2 : a.eval o2 = v2) (h3 : a.eval o3 = v3) (h4 : a.eval o4 = v4)
    (hrun : (Instr.buildSlice t len #[(i1, v1), (i2, v2), (i3, v3), (i4, v4)]).run P w = .ok u w') (hN : N u w') : makes P o a w N := makes_build ho (by simp [h1, h2, h3, h4]) hrun hN
end
end ord
theorem run_idxI (g n c q : Nat) (hq : q < n) (w : World) : (Instr.indexAt 68 (.slice (some ⟨g, 0, none⟩) n c) (.int .i64 (q : Nat))).run Tryd.prog w = .ok (.pointer (some ⟨g, q, none⟩)) w := by
  have hq2 : (q : Int) < n := by omega
  go_simp
theorem run_loadI (p : Addr) (x : Nat) (w : World) (h : w.cell? p = some (.int .i64 (x : Nat))) : (Instr.loadAt 3 (.pointer (some p))).run Tryd.prog w = .ok (.int .i64 (x : Nat)) w := by
  go_simp
theorem run_convI8 (x d : Nat) (hd : d = x % 256) (w : World) : (convert 3 5 (.int .i64 (x : Nat))).run Tryd.prog w = .ok (.int .u8 (d : Nat)) w := by
  have h2 : IntKind.u8.wrap (x : Int) = (d : Nat) := by simp [IntKind.wrap, IntKind.bits, IntKind.signed]; omega
  go_simp
theorem run_bytes4 (w : World) (a b c d : Nat) : (Instr.buildSlice 22 4 #[(0, .int .u8 (a : Nat)), (1, .int .u8 (b : Nat)), (2, .int .u8 (c : Nat)), (3, .int .u8 (d : Nat))]).run Tryd.prog w =
    .ok (.slice (some ⟨w.heap.size, 0, none⟩) 4 4) (w.alloc (.cells #[.int .u8 (a : Nat), .int .u8 (b : Nat), .int .u8 (c : Nat), .int .u8 (d : Nat)] 5)) := by go_simp
end Go.Proofs.YtogcfaijphpgfaaDoor
