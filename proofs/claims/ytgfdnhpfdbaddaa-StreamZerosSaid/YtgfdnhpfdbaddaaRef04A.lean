/- Contracts of the reference's aes: the steps of a round. -/
import Derived.Test.YtgfdnhpfdbaddaaRowB
import Derived.Test.YtgfdnhpfdbaddaaAes
import Derived.Test.YtgfdnhpfdbaddaaFldS
namespace Go.Proofs.Ytgfdnhpfdbaddaa
open Go.RowKit

theorem mk16 (W : World) : (Instr.makeSlice 22 (.int .i64 16) (.int .i64 16)).run Try.prog W = .ok (.slice (some ⟨W.heap.size, 0, none⟩) 16 16) (W.alloc (.cells (madeCells #[.int .u8 0] 16) 5)) := mk8 16 (by decide) W
theorem upto_row (h : Nat → Nat) (k x : Nat) (hx : h k = x) (j : Nat) : (if j = k then x else if j < k then h j else 0) = if j < k + 1 then h j else 0 := by
  by_cases e : j = k
  · subst e; rw [if_pos rfl, if_pos (Nat.lt_succ_self _), hx]
  · rw [if_neg e]
    by_cases h : j < k
    · rw [if_pos h, if_pos (by omega)]
    · rw [if_neg h, if_neg (by omega)]
/-- a row of n bytes in new memory -/
def NewRow (n : Nat) (f : Nat → Nat) (w : World) (e : Ending) (w' : World) : Prop := e = .returned (.slice (some ⟨w.heap.size, 0, none⟩) n n) ∧ RowB w' w.heap.size n f ∧ Below w.heap.size w w'

set_option maxHeartbeats 800000 in
theorem rlay_any4 (A1 A2 : Option Addr) (c1 c2 : Nat) (a b : Nat → Nat) (w : World) (h1 : SlB w A1 16 a) (h2 : SlB w A2 16 b) :
    Calls Try.prog 28 #[.slice A1 16 c1, .slice A2 16 c2] w (NewRow 16 (fun i => a i ^^^ b i) w) := by
  obtain ⟨B1, o1, rfl, l1, e1⟩ := h1 (by decide)
  obtain ⟨B2, o2, rfl, l2, e2⟩ := h2 (by decide)
  have E1 := Lib.hid e1
  have E2 := Lib.hid e2
  have L1 := Lib.hid l1
  have L2 := Lib.hid l2
  have hmk := mk16
  clear h1 h2 e1 e2 l1 l2
  go_enter Try.func28, Try.ntmps28
  go_wp2_with fail
  clear hmk
  go_loopw [6] (fun v wr => ∃ k : Nat, k ≤ 16 ∧ v = .int .i64 k ∧ RowB wr w.heap.size 16 (fun j => if j < k then a j ^^^ b j else 0) ∧ Below w.heap.size w wr) (fun v _ => 16 - (intOf v).toNat)
  case atStart => exact ⟨0, by decide, rfl, (rowB_made w 16).congr fun j _ => (if_neg (Nat.not_lt_zero _)).symm, (Below.refl _ _).alloc (Nat.le_refl _) _⟩
  case round =>
    obtain ⟨k, hk, rfl, h1, h2⟩ := hrel
    have H1 := Lib.hid h1
    have H2 := Lib.hid h2
    clear h1 h2
    by_cases hlt : k < 16
    · have hx := (E1.out k hlt).1
      have hy := (E2.out k hlt).1
      have hc1 := (H2.out.cell (p := ⟨B1, o1 + k, none⟩) L1.out).trans (E1.out k hlt).2
      have hc2 := (H2.out.cell (p := ⟨B2, o2 + k, none⟩) L2.out).trans (E2.out k hlt).2
      have hc3 := H1.out.cell hlt
      have hf3 := H1.out.frozen k
      rw [if_neg (Nat.lt_irrefl k)] at hc3
      have HR := Lib.hid (((H1.out.set k (a k ^^^ b k) _ rfl).congr fun j _ => upto_row (fun j => a j ^^^ b j) k _ rfl j).drew)
      have HB := Lib.hid ((H2.out.setCell (p := ⟨w.heap.size, k, none⟩) (Nat.le_refl _) (.int .u8 ((a k ^^^ b k : Nat) : Int))).drew)
      have hxy : bits BinOp.xor .u8 ((a k : Nat) : Int) ((b k : Nat) : Int) = ((a k ^^^ b k : Nat) : Int) := u8_xor_nat _ _ hx hy
      generalize a k = x at *
      generalize b k = y at *
      go_wp2_with fail
      go_region
      all_goals
        generalize (wr.setCell ⟨w.heap.size, k, none⟩ (.int .u8 ((x ^^^ y : Nat) : Int))).drew = W at *
        clear hc1 hc2 hc3 hf3
        go_wp2_with fail
        go_roundw
        case rel => exact ⟨k + 1, by omega, by go_num, HR.out, HB.out⟩
        case measure => simp [intOf]; omega
    · obtain rfl : k = 16 := by omega
      go_wp2_with fail
      go_ret
      exact ⟨rfl, H1.out.congr fun j hj => if_pos hj, H2.out⟩
set_option maxHeartbeats 800000 in
theorem rswap_any (A1 A2 : Option Addr) (c1 c2 : Nat) (a T : Nat → Nat) (w : World) (h1 : SlB w A1 16 a) (h2 : SlB w A2 256 T) :
    Calls Try.prog 30 #[.slice A1 16 c1, .slice A2 256 c2] w (NewRow 16 (fun i => T (a i)) w) := by
  obtain ⟨B1, o1, rfl, l1, e1⟩ := h1 (by decide)
  obtain ⟨B2, o2, rfl, l2, e2⟩ := h2 (by decide)
  have E1 := Lib.hid e1
  have E2 := Lib.hid e2
  have L1 := Lib.hid l1
  have L2 := Lib.hid l2
  have hmk := mk16
  clear h1 h2 e1 e2 l1 l2
  go_enter Try.func30, Try.ntmps30
  go_wp2_with fail
  clear hmk
  go_loopw [6] (fun v wr => ∃ k : Nat, k ≤ 16 ∧ v = .int .i64 k ∧ RowB wr w.heap.size 16 (fun j => if j < k then T (a j) else 0) ∧ Below w.heap.size w wr) (fun v _ => 16 - (intOf v).toNat)
  case atStart => exact ⟨0, by decide, rfl, (rowB_made w 16).congr fun j _ => (if_neg (Nat.not_lt_zero _)).symm, (Below.refl _ _).alloc (Nat.le_refl _) _⟩
  case round =>
    obtain ⟨k, hk, rfl, h1, h2⟩ := hrel
    have H1 := Lib.hid h1
    have H2 := Lib.hid h2
    clear h1 h2
    by_cases hlt : k < 16
    · have hx := (E1.out k hlt).1
      have hc1 := (H2.out.cell (p := ⟨B1, o1 + k, none⟩) L1.out).trans (E1.out k hlt).2
      have hc2 := (H2.out.cell (p := ⟨B2, o2 + a k, none⟩) L2.out).trans (E2.out (a k) hx).2
      have hc3 := H1.out.cell hlt
      have hf3 := H1.out.frozen k
      rw [if_neg (Nat.lt_irrefl k)] at hc3
      have HR := Lib.hid ((H1.out.set k (T (a k)) _ rfl).congr fun j _ => upto_row (fun j => T (a j)) k _ rfl j)
      have HB := Lib.hid (H2.out.setCell (p := ⟨w.heap.size, k, none⟩) (Nat.le_refl _) (.int .u8 ((T (a k) : Nat) : Int)))
      generalize T (a k) = y at *
      generalize a k = x at *
      go_wp2_with fail
      go_roundw
      case rel => exact ⟨k + 1, by omega, by go_num, HR.out, HB.out⟩
      case measure => simp [intOf]; omega
    · obtain rfl : k = 16 := by omega
      go_wp2_with fail
      go_ret
      exact ⟨rfl, H1.out.congr fun j hj => if_pos hj, H2.out⟩
end Go.Proofs.Ytgfdnhpfdbaddaa
