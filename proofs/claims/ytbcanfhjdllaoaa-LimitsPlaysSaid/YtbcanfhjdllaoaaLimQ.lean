/- Layer 16: parts of a slice of uses; a whole use stored. -/
import Derived.Test.YtbcanfhjdllaoaaLimS
import Derived.Test.YtbcanfhjdllaoaaLimF
namespace Go.Proofs.Ytbcanfhjdllaoaa
set_option maxRecDepth 100000
open Go.RowKit
/-- l[:k], l[k:] of a slice of uses -/
def loU (A : Option Addr) (c : Nat) : Option Addr := if c = 0 then A else A.map (·.add (0 * 4))
def hiU (A : Option Addr) (c k : Nat) : Option Addr := if c = k then A else A.map (·.add (k * 4))
theorem elemU : Try.prog.elem 22 = 31 := by kernel_rfl
theorem run_loU (w : World) (A : Option Addr) (n c k : Nat) (hk : k ≤ c) : (Instr.sliceAt 22 (.slice A n c) none (some (.int .i64 (k : Int))) none).run Try.prog w = .ok (.slice (loU A c) k c) w := by
  rw [run_sliceAt_slice (h := Try.underlying22), run_slice_h (ht := Try.underlying22) (h0 := by omega) (h2 := by omega), elemU, Try.sizeOf31]
  rfl
theorem run_hiU (w : World) (A : Option Addr) (n c k : Nat) (hk : k + 1 ≤ n) : (Instr.sliceAt 22 (.slice A n c) (some (.int .i64 ((k : Int) + 1))) none none).run Try.prog w = .ok (.slice (hiU A c (k + 1)) (n - (k + 1)) (c - (k + 1))) w := by
  rw [show ((k : Int) + 1) = ((k + 1 : Nat) : Int) by omega, run_sliceAt_slice (h := Try.underlying22), run_slice_l (ht := Try.underlying22) (h0 := by omega) (h1 := by omega), elemU, Try.sizeOf31]
  rfl
theorem LiS.loU {w : World} {A : Option Addr} {F : List Us} (h : LiS usE w A F) (c : Nat) {k : Nat} (hk : k ≤ F.length) : LiS usE w (loU A c) (F.take k) := fun hn => by
  have hl : (F.take k).length = k := by rw [List.length_take]; omega
  obtain ⟨B, o, rfl, hB, hc⟩ := h (by omega)
  refine ⟨B, o, ?_, hB, fun q v hq => hc q v ?_⟩
  · unfold Go.Proofs.Ytbcanfhjdllaoaa.loU; split
    · rfl
    · rw [Option.map_some, Go.WideShapes.add_plain, Nat.zero_mul, Nat.add_zero]
  · rw [Enc.fl_take F hk, List.getElem?_take] at hq
    split at hq
    · exact hq
    · cases hq
theorem LiS.hiU {w : World} {A : Option Addr} {F : List Us} (h : LiS usE w A F) {c k : Nat} (hk : k ≤ F.length) (hc : F.length ≤ c) : LiS usE w (hiU A c k) (F.drop k) := fun hn => by
  have hl : (F.drop k).length = F.length - k := List.length_drop
  obtain ⟨B, o, rfl, hB, hh⟩ := h (by omega)
  refine ⟨B, o + k * 4, ?_, hB, fun q v hq => ?_⟩
  · unfold Go.Proofs.Ytbcanfhjdllaoaa.hiU
    rw [if_neg (by omega), Option.map_some, Go.WideShapes.add_plain]
  · rw [Enc.fl_drop F hk, List.getElem?_drop] at hq
    rw [Nat.add_assoc]
    exact hh _ _ hq
/-- a card's whole use stored -/
theorem RBk.cells4 {u w : World} {X : Nat} {L : List Us} {g c k : Nat} {q : Us} (h : RBk u X w L (.slice (some ⟨g, 0, none⟩) L.length c)) (hk : k < L.length) (hc : q.c = L[k].c) (ok : UsOk q) :
    RBk u X ((((w.setCell ⟨g, k * 4, none⟩ (.string q.c)).setCell ⟨g, k * 4 + 1, none⟩ (.int .i64 q.w)).setCell ⟨g, k * 4 + 2, none⟩ (.int .i64 q.n)).setCell ⟨g, k * 4 + 3, none⟩ (.int .i64 q.s)) (setU L q) (.slice (some ⟨g, 0, none⟩) (setU L q).length c) ∧
    ChgS (fun j => j = X ∨ some g = some j) w ((((w.setCell ⟨g, k * 4, none⟩ (.string q.c)).setCell ⟨g, k * 4 + 1, none⟩ (.int .i64 q.w)).setCell ⟨g, k * 4 + 2, none⟩ (.int .i64 q.n)).setCell ⟨g, k * 4 + 3, none⟩ (.int .i64 q.s)) := by
  obtain ⟨a0, b0⟩ := h.cell1 hk (i := 0) (y := L[k]) (x := .string q.c) (by decide) (by rw [hc]; rfl) rfl (h.ok.each _ (List.getElem_mem hk))
  rw [List.set_getElem_self] at a0
  obtain ⟨a1, b1⟩ := a0.cells3 hk hc ok
  exact ⟨a1, b0.trans b1⟩
/-- what a store of a whole use asks of a row -/
theorem row_facts {u w : World} {X : Nat} {L : List Us} {g c k : Nat} (h : RBk u X w L (.slice (some ⟨g, 0, none⟩) L.length c)) (hk : k < L.length) (x0 x1 x2 : Value) :
    (w.cell? ⟨g, k * 4, none⟩ = some (.string L[k].c) ∧ w.frozen? ⟨g, k * 4, none⟩ = false) ∧
    ((w.setCell ⟨g, k * 4, none⟩ x0).cell? ⟨g, k * 4 + 1, none⟩ = some (.int .i64 L[k].w) ∧ (w.setCell ⟨g, k * 4, none⟩ x0).frozen? ⟨g, k * 4 + 1, none⟩ = false) ∧
    (((w.setCell ⟨g, k * 4, none⟩ x0).setCell ⟨g, k * 4 + 1, none⟩ x1).cell? ⟨g, k * 4 + 2, none⟩ = some (.int .i64 L[k].n) ∧ ((w.setCell ⟨g, k * 4, none⟩ x0).setCell ⟨g, k * 4 + 1, none⟩ x1).frozen? ⟨g, k * 4 + 2, none⟩ = false) ∧
    ((((w.setCell ⟨g, k * 4, none⟩ x0).setCell ⟨g, k * 4 + 1, none⟩ x1).setCell ⟨g, k * 4 + 2, none⟩ x2).cell? ⟨g, k * 4 + 3, none⟩ = some (.int .i64 L[k].s) ∧ (((w.setCell ⟨g, k * 4, none⟩ x0).setCell ⟨g, k * 4 + 1, none⟩ x1).setCell ⟨g, k * 4 + 2, none⟩ x2).frozen? ⟨g, k * 4 + 3, none⟩ = false) := by
  obtain ⟨_, ⟨c0, c1, c2, c3⟩, cf⟩ := us_own2 h.own hk
  have ne : ∀ {W : World} {i j : Nat} {y : Value}, i ≠ j → (W.setCell ⟨g, i, none⟩ y).cell? ⟨g, j, none⟩ = W.cell? ⟨g, j, none⟩ := fun {W i j y} hij => World.cell?_setCell_other W ⟨g, i, none⟩ ⟨g, j, none⟩ y (fun e => hij (congrArg Addr.off e))
  refine ⟨⟨c0, cf _⟩, ⟨(ne (by omega)).trans c1, by rw [World.frozen?_setCell]; exact cf _⟩, ⟨(ne (by omega)).trans ((ne (by omega)).trans c2), by rw [World.frozen?_setCell, World.frozen?_setCell]; exact cf _⟩, ⟨(ne (by omega)).trans ((ne (by omega)).trans ((ne (by omega)).trans c3)), by rw [World.frozen?_setCell, World.frozen?_setCell, World.frozen?_setCell]; exact cf _⟩⟩
end Go.Proofs.Ytbcanfhjdllaoaa
