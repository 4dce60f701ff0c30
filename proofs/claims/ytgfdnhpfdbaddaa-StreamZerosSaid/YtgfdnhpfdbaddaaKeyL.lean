/- Keys of both kinds in laws; bytes that were lent. -/
import Derived.Test.YtgfdnhpfdbaddaaAesG
import Derived.Test.YtgfdnhpfdbaddaaRef04F
import Derived.Test.YtgfdnhpfdbaddaaLent
import Derived.Test.YtgfdnhpfdbaddaaChS
namespace Go.Proofs.Ytgfdnhpfdbaddaa
open Go.RowKit
theorem KeyAt.words {w : World} {g n : Nat} {key : Nat → Nat} (h : KeyAt w g n key) : w.cell? ⟨g, 0, none⟩ = some (.int .i64 (n : Nat)) := h.elim (fun h => KeyMem.words h) (fun h => KeyMem.words h)
theorem RKey.chg {w w' : World} {g n K : Nat} {z : Int} {key : Nat → Nat} (h : RKey w g n key) (hc : Chg K w w') (hK : w.cell? ⟨K, 0, none⟩ = some (.int .i64 z)) : RKey w' g n key := by
  have hg := h.lt
  obtain ⟨⟨L, cap, G, C, h1, h2, h3⟩, ⟨B, h4, h5⟩, ⟨U, h6, h7⟩⟩ := h
  have n1 : g ≠ K := fun e => by subst e; rw [hK] at h1; cases h1
  have n2 : L ≠ K := fun e => by subst e; have := (h3 0 (by omega)).1; rw [hK] at this; cases this
  have n3 : B ≠ K := fun e => by subst e; have := h5.cell (i := 0) (by decide); rw [hK] at this; cases this
  have n4 : U ≠ K := fun e => by subst e; have := h7.cell (i := 0) (by decide); rw [hK] at this; cases this
  have n5 : ∀ j, j < n + 7 → G j ≠ K := fun j hj e => by subst e; have := (h3 j hj).2.cell (i := 0) (by decide); rw [hK] at this; cases this
  exact ⟨⟨L, cap, G, C, (hc.cell hg n1).trans h1, Nat.lt_of_lt_of_le h2 hc.size, fun j hj => ⟨(hc.cell h2 n2).trans (h3 j hj).1, (h3 j hj).2.of_block (hc.block _ (h3 j hj).2.lt (n5 j hj))⟩⟩,
    ⟨B, (hc.cell hg n1).trans h4, (hc.block B h5.lt n3).trans h5⟩, ⟨U, (hc.cell hg n1).trans h6, (hc.block U h7.lt n4).trans h7⟩⟩
theorem rnew_at (A : Option Addr) (len n cap : Nat) (key : Nat → Nat) (w : World) (hl : 4 * n = len) (hn : n = 4 ∨ n = 8) (hc : len ≤ cap) (hA : SlB w A len key) :
    Calls Try.prog 18 #[.slice A len cap] w fun e w' => ∃ g, e = .returned (.tuple #[.pointer (some ⟨g, 0, none⟩), .int .i64 0]) ∧ w.heap.size ≤ g ∧ RKey w' g n key ∧ Below w.heap.size w w' := by
  subst hl
  exact rnew_any A n cap key w hn hc hA
theorem lent_slB {w : World} {g len : Nat} {b : Nat → Nat} (h : w.rowIs g 5 (len + 1) (fun j => .int .u8 (if j < len then b j else 77 : Nat))) (hb : By len b) : SlB w (some ⟨g, 0, none⟩) len b :=
  SlB.of_rowX ((RowX.of_rowIs h).less (Nat.le_succ len)) fun j hj => ⟨hb j hj, by rw [if_pos hj]⟩
theorem lent_arr {w : World} {g len : Nat} {b : Nat → Nat} (h : w.rowIs g 5 (len + 1) (fun j => .int .u8 (if j < len then b j else 77 : Nat))) : Arr w g 0 (len + 1) (fun j => if j < len then b j else 77) :=
  RowX.arr (RowX.of_rowIs h)
theorem KeyAt.ne {w : World} {g n B : Nat} {key : Nat → Nat} {v : Value} (h : KeyAt w g n key) (hB : w.cell? ⟨B, 0, none⟩ = some v) (hv : ∀ z, v ≠ .int .i64 z) : B ≠ g := fun e => by
  subst e
  rw [h.words] at hB
  exact hv _ (Option.some.inj hB).symm
end Go.Proofs.Ytgfdnhpfdbaddaa
