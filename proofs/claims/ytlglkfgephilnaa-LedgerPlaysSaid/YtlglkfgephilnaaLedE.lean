/- Layer 17: posts in memory. -/
import Derived.Test.YtlglkfgephilnaaLedM
import Derived.Test.YtlglkfgephilnaaRowA
import Derived.Laws.StructEq
namespace Go.Proofs.Ytlglkfgephilnaa
set_option maxRecDepth 100000
open Go.RowKit
/-- a post's cells -/
def poE : Enc Po where
  e := fun p => [.string p.k, .int .i64 p.a, .int .i64 p.s, .string p.t]
  k := 4
  pos := by decide
  len := fun _ => rfl
  one := fun u v hv => by
    rcases List.mem_cons.1 hv with rfl | hv
    · rfl
    rcases List.mem_cons.1 hv with rfl | hv
    · rfl
    rcases List.mem_cons.1 hv with rfl | hv
    · rfl
    rcases List.mem_cons.1 hv with rfl | hv
    · rfl
    · cases hv
theorem poTy : RowTy Try.prog poE 22 31 (.agg #[.string ⟨#[]⟩, .int .i64 0, .int .i64 0, .string ⟨#[]⟩]) 48 := ⟨Try.underlying22, by kernel_rfl, rfl⟩
/-- an element's cells, as walks spell them -/
theorem po_at {w : World} {A : Option Addr} {F : List Po} (h : LiS poE w A F) {j : Nat} (hj : j < F.length) : ∃ B o, A = some ⟨B, o, none⟩ ∧ B < w.heap.size ∧ w.cell? ⟨B, o + j * 4, none⟩ = some (.string F[j].k) ∧ w.cell? ⟨B, o + j * 4 + 1, none⟩ = some (.int .i64 F[j].a) ∧
    w.cell? ⟨B, o + j * 4 + 2, none⟩ = some (.int .i64 F[j].s) ∧ w.cell? ⟨B, o + j * 4 + 3, none⟩ = some (.string F[j].t) := by
  obtain ⟨B, o, hA, hB, hc⟩ := h.at_ (List.getElem?_eq_getElem hj)
  exact ⟨B, o, hA, hB, hc 0 _ rfl, hc 1 _ rfl, hc 2 _ rfl, hc 3 _ rfl⟩
/-- in a row that the call may write -/
theorem po_own {w : World} {base g n cc : Nat} {F : List Po} (h : OwL poE 31 w base (.slice (some ⟨g, 0, none⟩) n cc) F) {j : Nat} (hj : j < F.length) : (base ≤ g ∧ g < w.heap.size) ∧
    (w.cell? ⟨g, j * 4, none⟩ = some (.string F[j].k) ∧ w.cell? ⟨g, j * 4 + 1, none⟩ = some (.int .i64 F[j].a) ∧ w.cell? ⟨g, j * 4 + 2, none⟩ = some (.int .i64 F[j].s) ∧ w.cell? ⟨g, j * 4 + 3, none⟩ = some (.string F[j].t)) ∧
    ∀ i, w.frozen? ⟨g, i, none⟩ = false := by
  obtain ⟨g', c, e, h1, h2, hl⟩ := h.lies (by omega)
  obtain ⟨B, o, hA, _, c0, c1, c2, c3⟩ := po_at hl hj
  injection hA with hA
  injection hA with hB ho _
  subst hB ho
  rw [Nat.zero_add] at c0 c1 c2 c3
  have hn : n = F.length := by injection e
  have hg : g = g' := by
    injection e with e1 _ _
    injection e1 with e1
    injection e1
  subst hn hg
  exact ⟨⟨h1, h2⟩, ⟨c0, c1, c2, c3⟩, fun i => World.ownsRow.frozenAt h i⟩
theorem str_eq17 (a b : ByteArray) : (a.toList == b.toList) = decide (a = b) := by
  rw [ByteArray.toList_eq, ByteArray.toList_eq, Bool.eq_iff_iff, beq_iff_eq, decide_eq_true_iff]
  exact ⟨fun h => ByteArray.ext (Array.ext' h), fun h => by rw [h]⟩
abbrev poV (p : Po) : Value := .agg #[.string p.k, .int .i64 p.a, .int .i64 p.s, .string p.t]
theorem run_neqPo (u v : Po) (w : World) : (binOp .neq 31 (.agg #[.string u.k, .int .i64 u.a, .int .i64 u.s, .string u.t]) (.agg #[.string v.k, .int .i64 v.a, .int .i64 v.s, .string v.t])).run Try.prog w = .ok (.bool (decide (u ≠ v))) w := by
  have hS : Try.prog.underlying 31 = some (.struct (Try.prog.fieldsOf 31)) := by kernel_rfl
  have hp : Try.prog.stoodInHeld 31 = false := by kernel_rfl
  have u3 := Try.underlying3
  have a3 := Try.isAgg3
  have z3 := Try.sizeOf3
  have u9 := Try.underlying9
  have a9 := Try.isAgg9
  have z9 := Try.sizeOf9
  rw [run_neq_struct, show (10000 : Nat) = 9999 + 1 from rfl, run_equalIn_agg w 9999 31 _ _ hS hp]
  simp only [Program.fieldsOf, Try.underlying31]
  obtain ⟨c, x, n, s⟩ := u
  obtain ⟨c', x', n', s'⟩ := v
  have hd : decide ((⟨c, x, n, s⟩ : Po) ≠ ⟨c', x', n', s'⟩) = !(decide (c = c') && decide (x = x') && decide (n = n') && decide (s = s')) := by
    rw [decide_not, show decide ((⟨c, x, n, s⟩ : Po) = ⟨c', x', n', s'⟩) = (decide (c = c') && decide (x = x') && decide (n = n') && decide (s = s')) by
      rw [Bool.eq_iff_iff]; simp [and_assoc]]
  rw [hd, ← str_eq17 c, ← str_eq17 s]
  go_simp
  by_cases h1 : x = x' <;> by_cases h2 : c.toList = c'.toList <;> by_cases h3 : n = n' <;> by_cases h4 : s.toList = s'.toList <;> simp [h1, h2, h3, h4]
/-- the cells of a post's block -/
theorem po_cells {w : World} {b : Nat} {z : Po} (h : w.heap[b]? = some (.cells #[.string z.k, .int .i64 z.a, .int .i64 z.s, .string z.t] 31)) :
    w.cell? ⟨b, 0, none⟩ = some (.string z.k) ∧ w.cell? ⟨b, 1, none⟩ = some (.int .i64 z.a) ∧ w.cell? ⟨b, 2, none⟩ = some (.int .i64 z.s) ∧ w.cell? ⟨b, 3, none⟩ = some (.string z.t) :=
  ⟨(Lib.cell_of_heap h 0).trans rfl, (Lib.cell_of_heap h 1).trans rfl, (Lib.cell_of_heap h 2).trans rfl, (Lib.cell_of_heap h 3).trans rfl⟩
end Go.Proofs.Ytlglkfgephilnaa
