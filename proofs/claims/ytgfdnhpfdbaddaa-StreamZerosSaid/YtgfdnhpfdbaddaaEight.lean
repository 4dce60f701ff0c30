/- The reference: a number in eight bytes. -/
import Derived.Test.YtgfdnhpfdbaddaaLen8
namespace Go.Proofs.Ytgfdnhpfdbaddaa
open Go.RowKit
set_option maxRecDepth 100000 in
set_option maxHeartbeats 800000 in
theorem eight_any (x : Nat) (w : World) (hx : x ≤ 9223372036854775807) :
    Calls Try.prog 20 #[.int .i64 (x : Nat)] w fun e w' => ∃ A c, e = .returned (.slice A 8 c) ∧ OwnB w' w.heap.size (.slice A 8 c) 8 (len8 x) ∧ Below w.heap.size w w' := by
  have hxi : (x : Int) ≤ 9223372036854775807 := by omega
  go_enter Try.func20, Try.ntmps20
  go_wp2_with fail
  go_loopw [3, 4] (fun v t wr => ∃ (j : Nat) (A c : _), j ≤ 8 ∧ t = .int .i64 (7 - (j : Int)) ∧ v = .slice A j c ∧ OwnB wr w.heap.size (.slice A j c) j (len8 x) ∧ Below w.heap.size w wr) (fun _ t _ => (intOf t + 1).toNat)
  case atStart => exact ⟨0, none, 0, Nat.zero_le _, rfl, rfl, OwnB.nil _ _ _, Below.refl _ _⟩
  case round =>
    obtain ⟨j, A5, c5, hj, rfl, rfl, h1, h2⟩ := hrel
    have G1 := Lib.hid h1
    have G2 := Lib.hid h2
    clear h1 h2
    by_cases hj8 : j < 8
    · obtain ⟨q, hq⟩ : ∃ q, q = 7 - j := ⟨_, rfl⟩
      obtain ⟨q8, hq8⟩ : ∃ q8, q8 = 8 * q := ⟨_, rfl⟩
      have eq : (7 : Int) - j = q := by omega
      have eq8 : (8 : Int) * q = q8 := by omega
      have hqi : (q : Int) ≤ 7 := by omega
      have hq8i : (q8 : Int) ≤ 56 := by omega
      obtain ⟨y, hy⟩ : ∃ y, y = x / 2 ^ q8 := ⟨_, rfl⟩
      have hyx : y ≤ x := by rw [hy]; exact Nat.div_le_self _ _
      have ey : (x : Int) / 2 ^ q8 = y := by rw [hy]; simp
      obtain ⟨z, hz⟩ : ∃ z, z = y % 256 := ⟨_, rfl⟩
      have ez : (y : Int) % 256 = z := by omega
      have lz : z < 256 := by omega
      have HZP := Lib.hid (show z = len8 x j by unfold len8; rw [hz, hy, hq8, hq])
      have HZ1 := Lib.hid fun W => one_sl W z lz
      have hyi : (y : Int) ≤ 9223372036854775807 := by omega
      have HEQ := Lib.hid eq
      clear hq hq8 hy hz
      rw [eq]
      have HO3 := Lib.hid (G1.out.alloc (.cells #[.int .u8 (z : Nat)] 5))
      have HB3 := Lib.hid (G2.out.alloc G2.out.size (.cells #[.int .u8 (z : Nat)] 5))
      go_wp2_with (refine wpList_appO rfl (.tmp 9) (.tmp 15) rfl w.heap.size _ j (len8 x) rfl HO3.out (some ⟨_, 0, none⟩) 1 1 (fun _ => z) rfl (HZ1.out _) (fun h => by cases h) (by omega) HB3.out.size (fun i _ => len8_lt x i) (fun _ _ => lz) ?_; intro A4 c4 w4 h1 h2 h3 h4; have HO4 := Lib.hid (OwnB.congr (g := len8 x) h1 fun i hi => by unfold catB; by_cases e : i < j; rw [if_pos e]; rw [if_neg e, HZP.out, show i = j by omega]); have HB4 := Lib.hid (HB3.out.trans h4); clear h1 h2 h3 h4)
      exact ⟨⟨j + 1, A4, c4, by omega, congrArg _ (by have := HEQ.out; omega), rfl, HO4.out, HB4.out⟩, by simp [intOf]⟩
    · obtain rfl : j = 8 := by omega
      have et : (7 : Int) - ((8 : Nat) : Int) = -1 := by omega
      rw [et]
      clear et
      go_wp2_with fail
      go_ret
      exact ⟨A5, c5, rfl, G1.out, G2.out⟩
end Go.Proofs.Ytgfdnhpfdbaddaa
