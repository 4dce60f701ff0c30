/- Contracts of package radix: Power, Width. -/
import Derived.Test.YtejljmpjdhdoiaaDoorRadM
import Derived.Test.YtejljmpjdhdoiaaDoorLenB
namespace Go.Proofs.YtejljmpjdhdoiaaDoor
open Go.RowKit

/-- the table of powers in memory -/
def Pws (w : World) : Prop := ∀ i, i < 16 → w.cell? ⟨0, i, none⟩ = some (.int .i64 ((10 ^ (i + 1) : Nat) : Int))
namespace Pws
variable {w w' : World}
theorem lt (h : Pws w) : 0 < w.heap.size := block_lt (h 0 (by omega))
theorem keep (h : Pws w) (hb : Below w.heap.size w w') : Pws w' := fun i hi => (hb.cell (p := ⟨_, i, none⟩) h.lt).trans (h i hi)
theorem drewN (h : Pws w) (n : Nat) : Pws (w.drewN n) := h
theorem alloc (h : Pws w) (o : Obj) : Pws (w.alloc o) := h.keep ((Below.refl _ _).alloc (Nat.le_refl _) o)
end Pws

theorem xpower_any (m : Int) (w : World) (hp : Pws w) :
    Calls Tryd.prog 14 #[.int .i64 m] w fun e w' => e = .returned (.int .i64 (pw m : Nat)) ∧ w = w' := by
  by_cases h1 : m < 1
  · have HZ := Lib.hid (pw_none (Or.inl h1))
    clear hp
    go_enter Tryd.func14, Tryd.ntmps14
    go_wp2_with fail
    go_ret
    exact ⟨by rw [HZ.out]; rfl, rfl⟩
  · by_cases h2 : 16 < m
    · have HZ := Lib.hid (pw_none (Or.inr h2))
      clear hp
      go_enter Tryd.func14, Tryd.ntmps14
      go_wp2_with fail
      go_ret
      exact ⟨by rw [HZ.out]; rfl, rfl⟩
    · obtain ⟨j, rfl⟩ : ∃ j : Nat, m = (j : Int) + 1 := ⟨(m - 1).toNat, by omega⟩
      have hc := hp j (by omega)
      have HZ := Lib.hid (show pw ((j : Int) + 1) = 10 ^ (j + 1) from pw_at (k := j + 1) (by omega) (by omega))
      clear hp
      generalize (10 ^ (j + 1) : Nat) = q at *
      go_enter Tryd.func14, Tryd.ntmps14
      go_wp2_with fail
      go_ret
      exact ⟨by rw [HZ.out]; rfl, rfl⟩

theorem len_any (x : Int) (w : World) (h0 : 0 ≤ x) (hx : x ≤ 9223372036854775807) :
    Calls Tryd.prog 32 #[.int .u64 x] w fun e w' => e = .returned (.int .i64 (Lib.bitLen x.toNat : Nat)) ∧ w = w' := by
  have HC := Lib.hid (len64_any x w h0 hx)
  go_enter Tryd.func32, Tryd.ntmps32
  go_wp2_with fail
  refine HC.out.mono ?_
  rintro e w' ⟨rfl, rfl⟩
  go_wp2_with fail
  go_ret
  exact ⟨rfl, rfl⟩

theorem xwidth_any (m : Int) (w : World) (hp : Pws w) :
    Calls Tryd.prog 16 #[.int .i64 m] w fun e w' => e = .returned (.int .i64 (wd m : Nat)) ∧ w = w' := by
  have HC := Lib.hid (xpower_any m w hp)
  have hle := pw_le m
  by_cases h : pw m = 0
  · have HZ := Lib.hid (wd_none h)
    rw [h] at HC
    clear hp h hle
    go_enter Tryd.func16, Tryd.ntmps16
    go_wp2_with fail
    refine HC.out.mono ?_
    rintro e w' ⟨rfl, rfl⟩
    go_wp2_with fail
    go_ret
    exact ⟨by rw [HZ.out]; rfl, rfl⟩
  · have HL := Lib.hid (wd_len h)
    have hl8 := wd_le (m := m)
    obtain ⟨q, hq⟩ : ∃ q : Nat, pw m = q + 1 := ⟨pw m - 1, by omega⟩
    rw [hq] at HC HL hle
    have hcl : (Lib.bitLen q : Nat) ≤ 64 := by have := HL.out; rw [Nat.add_sub_cancel] at this; omega
    have HC2 := Lib.hid (len_any (q : Nat) w (by omega) (by omega))
    have HE := Lib.hid (show (((Lib.bitLen ((q : Nat) : Int).toNat : Nat) : Int) + 7) / 8 = (wd m : Nat) by have := HL.out; rw [Nat.add_sub_cancel] at this; rw [← this, Int.toNat_natCast]; omega)
    have hb : Lib.bitLen ((q : Nat) : Int).toNat ≤ 64 := hcl
    generalize Lib.bitLen ((q : Nat) : Int).toNat = l at *
    have hne : (((q + 1 : Nat) : Int) == 0) = false := by simp; omega
    have hs : ((q + 1 : Nat) : Int) - 1 = q := by omega
    clear hp h hq hcl HL
    generalize ((q + 1 : Nat) : Int) = p at *
    go_enter Tryd.func16, Tryd.ntmps16
    go_wp2_with fail
    refine HC.out.mono ?_
    rintro e w' ⟨rfl, rfl⟩
    go_wp2_with fail
    refine HC2.out.mono ?_
    rintro e w' ⟨rfl, rfl⟩
    go_wp2_with fail
    go_ret
    exact ⟨by rw [← HE.out]; rfl, rfl⟩
end Go.Proofs.YtejljmpjdhdoiaaDoor
