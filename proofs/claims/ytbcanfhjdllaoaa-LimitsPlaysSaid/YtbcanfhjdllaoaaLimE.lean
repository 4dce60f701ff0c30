/- Layer 16: uses in memory. -/
import Derived.Test.YtbcanfhjdllaoaaLimM
import Derived.Test.YtbcanfhjdllaoaaRowA
import Derived.Laws.StructEq
namespace Go.Proofs.Ytbcanfhjdllaoaa
set_option maxRecDepth 100000
open Go.RowKit
/-- a use's cells -/
def usE : Enc Us where
  e := fun u => [.string u.c, .int .i64 u.w, .int .i64 u.n, .int .i64 u.s]
  k := 4
  pos := by decide
  len := fun _ => rfl
  one := fun u v hv => by
    rcases List.mem_cons.1 hv with rfl | hv
    · rfl
    rcases List.mem_cons.1 hv with rfl | hv
    · rfl
    rcases List.mem_cons.1 hv with rfl | hv
    · rfl
    rcases List.mem_cons.1 hv with rfl | hv
    · rfl
    · cases hv
theorem usTy : RowTy Try.prog usE 22 31 (.agg #[.string ⟨#[]⟩, .int .i64 0, .int .i64 0, .int .i64 0]) 40 := ⟨Try.underlying22, by kernel_rfl, rfl⟩
/-- an element's cells, as walks spell them -/
theorem us_at {w : World} {A : Option Addr} {F : List Us} (h : LiS usE w A F) {j : Nat} (hj : j < F.length) : ∃ B o, A = some ⟨B, o, none⟩ ∧ B < w.heap.size ∧ w.cell? ⟨B, o + j * 4, none⟩ = some (.string F[j].c) ∧ w.cell? ⟨B, o + j * 4 + 1, none⟩ = some (.int .i64 F[j].w) ∧
    w.cell? ⟨B, o + j * 4 + 2, none⟩ = some (.int .i64 F[j].n) ∧ w.cell? ⟨B, o + j * 4 + 3, none⟩ = some (.int .i64 F[j].s) := by
  obtain ⟨B, o, hA, hB, hc⟩ := h.at_ (List.getElem?_eq_getElem hj)
  exact ⟨B, o, hA, hB, hc 0 _ rfl, hc 1 _ rfl, hc 2 _ rfl, hc 3 _ rfl⟩
/-- in a row that the call may write -/
theorem us_own {w : World} {base : Nat} {v : Value} {F : List Us} (h : OwL usE 31 w base v F) {j : Nat} (hj : j < F.length) : ∃ g c, v = .slice (some ⟨g, 0, none⟩) F.length c ∧ base ≤ g ∧ g < w.heap.size ∧
    (w.cell? ⟨g, j * 4, none⟩ = some (.string F[j].c) ∧ w.cell? ⟨g, j * 4 + 1, none⟩ = some (.int .i64 F[j].w) ∧ w.cell? ⟨g, j * 4 + 2, none⟩ = some (.int .i64 F[j].n) ∧ w.cell? ⟨g, j * 4 + 3, none⟩ = some (.int .i64 F[j].s)) ∧
    ∀ i, w.frozen? ⟨g, i, none⟩ = false := by
  obtain ⟨g, c, e, h1, h2, hl⟩ := h.lies (by omega)
  obtain ⟨B, o, hA, _, c0, c1, c2, c3⟩ := us_at hl hj
  injection hA with hA
  injection hA with hB ho _
  subst hB ho
  rw [Nat.zero_add] at c0 c1 c2 c3
  subst e
  exact ⟨g, c, rfl, h1, h2, ⟨c0, c1, c2, c3⟩, fun i => World.ownsRow.frozenAt h i⟩
theorem str_eq16 (a b : ByteArray) : (a.toList == b.toList) = decide (a = b) := by
  rw [ByteArray.toList_eq, ByteArray.toList_eq, Bool.eq_iff_iff, beq_iff_eq, decide_eq_true_iff]
  exact ⟨fun h => ByteArray.ext (Array.ext' h), fun h => by rw [h]⟩
theorem run_neqUs (u v : Us) (w : World) : (binOp .neq 31 (.agg #[.string u.c, .int .i64 u.w, .int .i64 u.n, .int .i64 u.s]) (.agg #[.string v.c, .int .i64 v.w, .int .i64 v.n, .int .i64 v.s])).run Try.prog w = .ok (.bool (decide (u ≠ v))) w := by
  have hS : Try.prog.underlying 31 = some (.struct (Try.prog.fieldsOf 31)) := by kernel_rfl
  have hp : Try.prog.stoodInHeld 31 = false := by kernel_rfl
  have u3 := Try.underlying3
  have a3 := Try.isAgg3
  have z3 := Try.sizeOf3
  have u9 := Try.underlying9
  have a9 := Try.isAgg9
  have z9 := Try.sizeOf9
  rw [run_neq_struct, show (10000 : Nat) = 9999 + 1 from rfl, run_equalIn_agg w 9999 31 _ _ hS hp]
  simp only [Program.fieldsOf, Try.underlying31]
  obtain ⟨c, x, n, s⟩ := u
  obtain ⟨c', x', n', s'⟩ := v
  have hd : decide ((⟨c, x, n, s⟩ : Us) ≠ ⟨c', x', n', s'⟩) = !(decide (c = c') && decide (x = x') && decide (n = n') && decide (s = s')) := by
    rw [decide_not, show decide ((⟨c, x, n, s⟩ : Us) = ⟨c', x', n', s'⟩) = (decide (c = c') && decide (x = x') && decide (n = n') && decide (s = s')) by
      rw [Bool.eq_iff_iff]; simp [and_assoc]]
  rw [hd, ← str_eq16]
  go_simp
  by_cases h1 : x = x' <;> by_cases h2 : c.toList = c'.toList <;> by_cases h3 : n = n' <;> by_cases h4 : s = s' <;> simp [h1, h2, h3, h4]
end Go.Proofs.Ytbcanfhjdllaoaa
