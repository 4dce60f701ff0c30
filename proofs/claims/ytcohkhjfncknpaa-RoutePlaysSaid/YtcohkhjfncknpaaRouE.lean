/- Layer 15: routes in memory. -/
import Derived.Test.YtcohkhjfncknpaaRouM
import Derived.Test.YtcohkhjfncknpaaRowA
import Derived.Laws.StructEq
namespace Go.Proofs.Ytcohkhjfncknpaa
set_option maxRecDepth 100000
open Go.RowKit
/-- a route's cells -/
def rtE : Enc Rt where
  e := fun r => [.string r.p, .int .i64 r.t]
  k := 2
  pos := by decide
  len := fun _ => rfl
  one := fun r v hv => by
    rcases List.mem_cons.1 hv with rfl | hv
    · rfl
    · rcases List.mem_cons.1 hv with rfl | hv
      · rfl
      · cases hv
theorem rtTy : RowTy Try.prog rtE 38 41 (.agg #[.string ⟨#[]⟩, .int .i64 0]) 24 := ⟨Try.underlying38, by kernel_rfl, rfl⟩
/-- an element's cells, as walks spell them -/
theorem rt_at {w : World} {A : Option Addr} {F : List Rt} (h : LiS rtE w A F) {j : Nat} (hj : j < F.length) : ∃ B o, A = some ⟨B, o, none⟩ ∧ B < w.heap.size ∧ w.cell? ⟨B, o + j * 2, none⟩ = some (.string F[j].p) ∧ w.cell? ⟨B, o + j * 2 + 1, none⟩ = some (.int .i64 F[j].t) := by
  obtain ⟨B, o, hA, hB, hc⟩ := h.at_ (List.getElem?_eq_getElem hj)
  exact ⟨B, o, hA, hB, hc 0 _ rfl, hc 1 _ rfl⟩
theorem run_neqRt (v v' : ByteArray) (n n' : Int) (w : World) : (binOp .neq 41 (.agg #[.string v, .int .i64 n]) (.agg #[.string v', .int .i64 n'])).run Try.prog w = .ok (.bool (!(v.toList == v'.toList && n == n'))) w := by
  have hS : Try.prog.underlying 41 = some (.struct (Try.prog.fieldsOf 41)) := by kernel_rfl
  have hp : Try.prog.stoodInHeld 41 = false := by kernel_rfl
  have u3 := Try.underlying3
  have a3 := Try.isAgg3
  have z3 := Try.sizeOf3
  have u9 := Try.underlying9
  have a9 := Try.isAgg9
  have z9 := Try.sizeOf9
  rw [run_neq_struct, show (10000 : Nat) = 9999 + 1 from rfl, run_equalIn_agg w 9999 41 _ _ hS hp]
  simp only [Program.fieldsOf, Try.underlying41]
  go_simp
  by_cases h1 : n = n' <;> by_cases h2 : v.toList = v'.toList <;> simp [h1, h2]
theorem str_eq15 (a b : ByteArray) : (a.toList == b.toList) = decide (a = b) := by
  rw [ByteArray.toList_eq, ByteArray.toList_eq, Bool.eq_iff_iff, beq_iff_eq, decide_eq_true_iff]
  exact ⟨fun h => ByteArray.ext (Array.ext' h), fun h => by rw [h]⟩
/-- t[:k], t[k:] of a slice of routes -/
def loR (A : Option Addr) (c : Nat) : Option Addr := if c = 0 then A else A.map (·.add (0 * 2))
def hiR (A : Option Addr) (c k : Nat) : Option Addr := if c = k then A else A.map (·.add (k * 2))
theorem elemR : Try.prog.elem 38 = 41 := by kernel_rfl
theorem run_loR (w : World) (A : Option Addr) (n c k : Nat) (hk : k ≤ c) : (Instr.sliceAt 38 (.slice A n c) none (some (.int .i64 (k : Int))) none).run Try.prog w = .ok (.slice (loR A c) k c) w := by
  rw [run_sliceAt_slice (h := Try.underlying38), run_slice_h (ht := Try.underlying38) (h0 := by omega) (h2 := by omega), elemR, Try.sizeOf41]
  rfl
theorem run_hiR (w : World) (A : Option Addr) (n c k : Nat) (hk : k ≤ n) : (Instr.sliceAt 38 (.slice A n c) (some (.int .i64 (k : Int))) none none).run Try.prog w = .ok (.slice (hiR A c k) (n - k) (c - k)) w := by
  rw [run_sliceAt_slice (h := Try.underlying38), run_slice_l (ht := Try.underlying38) (h0 := by omega) (h1 := by omega), elemR, Try.sizeOf41]
  rfl
theorem LiS.loR {w : World} {A : Option Addr} {F : List Rt} (h : LiS rtE w A F) (c : Nat) {k : Nat} (hk : k ≤ F.length) : LiS rtE w (loR A c) (F.take k) := fun hn => by
  have hl : (F.take k).length = k := by rw [List.length_take]; omega
  obtain ⟨B, o, rfl, hB, hc⟩ := h (by omega)
  refine ⟨B, o, ?_, hB, fun q v hq => hc q v ?_⟩
  · unfold Go.Proofs.Ytcohkhjfncknpaa.loR; split
    · rfl
    · rw [Option.map_some, Go.WideShapes.add_plain, Nat.zero_mul, Nat.add_zero]
  · rw [Enc.fl_take F hk, List.getElem?_take] at hq
    split at hq
    · exact hq
    · cases hq
theorem LiS.hiR {w : World} {A : Option Addr} {F : List Rt} (h : LiS rtE w A F) {c k : Nat} (hk : k ≤ F.length) (hc : F.length ≤ c) : LiS rtE w (hiR A c k) (F.drop k) := fun hn => by
  have hl : (F.drop k).length = F.length - k := List.length_drop
  obtain ⟨B, o, rfl, hB, hh⟩ := h (by omega)
  refine ⟨B, o + k * 2, ?_, hB, fun q v hq => ?_⟩
  · unfold Go.Proofs.Ytcohkhjfncknpaa.hiR
    rw [if_neg (by omega), Option.map_some, Go.WideShapes.add_plain]
  · rw [Enc.fl_drop F hk, List.getElem?_drop] at hq
    rw [Nat.add_assoc]
    exact hh _ _ hq
end Go.Proofs.Ytcohkhjfncknpaa
