/- Contracts of package check: a sector's size, its checksum's bytes. -/
import Derived.Test.YtphbhfilaknbfaaDoorChkA
namespace Go.Proofs.YtphbhfilaknbfaaDoor
open Go.RowKit

def okSize (n : Int) : Bool := decide (5 ≤ n) && decide (n ≤ 4096)
theorem isSize_yes (n : Int) (w : World) (h1 : 5 ≤ n) (h2 : n ≤ 4096) : Calls Tryd.prog 20 #[.int .i64 n] w fun e w' => e = .returned (.bool true) ∧ w = w' := by
  go_enter Tryd.func20, Tryd.ntmps20
  go_wp2
  go_ret
  exact ⟨rfl, rfl⟩
theorem isSize_no (n : Int) (w : World) (h : n < 5 ∨ 4096 < n) : Calls Tryd.prog 20 #[.int .i64 n] w fun e w' => e = .returned (.bool false) ∧ w = w' := by
  by_cases h1 : n < 5
  · clear h
    go_enter Tryd.func20, Tryd.ntmps20
    go_wp2
    go_ret
    exact ⟨rfl, rfl⟩
  · have h2 : 4096 < n := by omega
    have h3 : 5 ≤ n := by omega
    have hd : decide (n ≤ 4096) = false := by simp; omega
    clear h h1
    go_enter Tryd.func20, Tryd.ntmps20
    go_wp2
    go_ret
    exact ⟨rfl, rfl⟩

/-- byte k of a number of 32 bits, the highest one first -/
def nb (s k : Nat) : Nat := match k with
  | 0 => s / 16777216
  | 1 => s / 65536 % 256
  | 2 => s / 256 % 256
  | _ => s % 256
theorem nb_lt (s k : Nat) (h : s < 4294967296) : nb s k < 256 := by unfold nb; split <;> omega

set_option maxHeartbeats 800000 in
theorem sumBytes_any (A : Option Addr) (n cap : Nat) (f : Nat → Nat) (w : World) (hn : n ≤ 281474976710656) (hA : SlB w A n f) (ht : Tab w) :
    Calls Tryd.prog 21 #[.slice A n cap] w fun e w' => e = .returned (.agg #[.int .u8 (nb (crc n f) 0 : Nat), .int .u8 (nb (crc n f) 1 : Nat), .int .u8 (nb (crc n f) 2 : Nat), .int .u8 (nb (crc n f) 3 : Nat)]) ∧ Below w.heap.size w w' := by
  have HA := Lib.hid hA
  have HT := Lib.hid ht
  clear hA ht
  go_enter Tryd.func21, Tryd.ntmps21
  go_wp2_with fail
  refine (sum_any (w.heap.size + 1) 1 1 (fun _ => A) (fun _ => n) (fun _ => cap) (fun _ => f) _ (by omega) (fun _ _ => hn) ?_ ?_).mono ?_
  · exact ⟨fun j hj => by
      obtain rfl : j = 0 := by omega
      exact (World.cell?_alloc_at _ _ _ _ (by simp)).trans rfl, fun j _ => HA.out.keep (((Below.refl _ _).alloc (Nat.le_refl _) _).alloc (by simp) _)⟩
  · exact HT.out.keep (((Below.refl _ _).alloc (Nat.le_refl _) _).alloc (by simp) _)
  rintro e w1 ⟨rfl, rfl⟩
  have HQ := Lib.hid (show 4294967295 - regs 4294967295 (fun _ => n) (fun _ => f) 1 = crc n f from rfl)
  rw [HQ.out]
  have hl := crc_lt n f
  obtain ⟨s, hs⟩ : ∃ s, crc n f = s := ⟨_, rfl⟩
  have HS := Lib.hid hs
  rw [hs] at hl ⊢
  clear hs
  have HN := Lib.hid (show ((nb s 0 : Nat) : Int) = (s : Int) / 16777216 ∧ ((nb s 1 : Nat) : Int) = (s : Int) / 65536 % 256 ∧ ((nb s 2 : Nat) : Int) = (s : Int) / 256 % 256 ∧ ((nb s 3 : Nat) : Int) = (s : Int) % 256 from ⟨rfl, rfl, rfl, rfl⟩)
  go_wp2_with fail
  rw [← HN.out.1, ← HN.out.2.1, ← HN.out.2.2.1, ← HN.out.2.2.2]
  exact bodyPost_ret (v := .agg #[.int .u8 (nb s 0 : Nat), .int .u8 (nb s 1 : Nat), .int .u8 (nb s 2 : Nat), .int .u8 (nb s 3 : Nat)]) (by simp [results, Tryd.results21, go_sem]) rfl ⟨by rw [HS.out], ((Below.refl _ _).alloc (Nat.le_refl _) _).alloc (by simp) _⟩
end Go.Proofs.YtphbhfilaknbfaaDoor
