/- Contracts of package sha: its tables, Word, Start. -/
import Derived.Test.YtcmhnelonainhaaDoorShaP
namespace Go.Proofs.YtcmhnelonainhaaDoor
open Go.RowKit
/-- the two tables, in memory -/
structure GT (w : World) : Prop where
  k : ∀ i, i < 64 → w.cell? ⟨0, i, none⟩ = some (.int .u32 (kc i : Nat))
  h : ∀ i, i < 8 → w.cell? ⟨1, i, none⟩ = some (.int .u32 (at8 st0 i : Nat))
namespace GT
variable {w w' : World}
theorem ltk (h : GT w) : 0 < w.heap.size := block_lt (h.k 0 (by decide))
theorem lth (h : GT w) : 1 < w.heap.size := block_lt (h.h 0 (by decide))
theorem keep (h : GT w) (hb : Below w.heap.size w w') : GT w' := ⟨fun i hi => (hb.cell (p := ⟨_, i, none⟩) h.ltk).trans (h.k i hi), fun i hi => (hb.cell (p := ⟨_, i, none⟩) h.lth).trans (h.h i hi)⟩
theorem chg {K : Nat} (h : GT w) (hc : Chg K w w') (hK : 0 ≠ K ∧ 1 ≠ K) : GT w' := ⟨fun i hi => (hc.cell h.ltk hK.1).trans (h.k i hi), fun i hi => (hc.cell h.lth hK.2).trans (h.h i hi)⟩
theorem drewN (h : GT w) (n : Nat) : GT (w.drewN n) := ⟨h.k, h.h⟩
theorem alloc (h : GT w) (o : Obj) : GT (w.alloc o) := h.keep ((Below.refl _ _).alloc (Nat.le_refl _) o)
end GT
set_option maxRecDepth 100000 in
theorem word_in (i : Nat) (w : World) (hi : i < 64) (ht : GT w) : Calls Tryd.prog 16 #[.int .i64 i] w fun e w' => e = .returned (.int .i64 (kc i : Nat)) ∧ w = w' := by
  have hc := ht.k i hi
  have hk := kc_lt i
  have hi2 : (i : Int) < 64 := by omega
  generalize kc i = x at *
  clear ht
  go_enter Tryd.func16, Tryd.ntmps16
  go_wp2_with fail
  go_ret
  exact ⟨rfl, rfl⟩
theorem word_out (i : Int) (w : World) (hi : i < 0 ∨ 64 ≤ i) : Calls Tryd.prog 16 #[.int .i64 i] w fun e w' => e = .returned (.int .i64 0) ∧ w = w' := by
  by_cases h : i < 0
  · go_enter Tryd.func16, Tryd.ntmps16
    go_wp2_with fail
    go_ret
    exact ⟨rfl, rfl⟩
  · have h0 : 0 ≤ i := by omega
    have h64 : 64 ≤ i := by omega
    clear hi h
    go_enter Tryd.func16, Tryd.ntmps16
    go_wp2_with fail
    go_ret
    exact ⟨rfl, rfl⟩
set_option maxRecDepth 100000 in
theorem start_in (i : Nat) (w : World) (hi : i < 8) (ht : GT w) : Calls Tryd.prog 18 #[.int .i64 i] w fun e w' => e = .returned (.int .i64 (at8 st0 i : Nat)) ∧ w = w' := by
  have hc := ht.h i hi
  have hk := at8_lt st0_ok i
  have hi2 : (i : Int) < 8 := by omega
  generalize at8 st0 i = x at *
  clear ht
  go_enter Tryd.func18, Tryd.ntmps18
  go_wp2_with fail
  go_ret
  exact ⟨rfl, rfl⟩
theorem start_out (i : Int) (w : World) (hi : i < 0 ∨ 8 ≤ i) : Calls Tryd.prog 18 #[.int .i64 i] w fun e w' => e = .returned (.int .i64 0) ∧ w = w' := by
  by_cases h : i < 0
  · go_enter Tryd.func18, Tryd.ntmps18
    go_wp2_with fail
    go_ret
    exact ⟨rfl, rfl⟩
  · have h0 : 0 ≤ i := by omega
    have h64 : 8 ≤ i := by omega
    clear hi h
    go_enter Tryd.func18, Tryd.ntmps18
    go_wp2_with fail
    go_ret
    exact ⟨rfl, rfl⟩
end Go.Proofs.YtcmhnelonainhaaDoor
