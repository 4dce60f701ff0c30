/- The laws' small case (layer 2). -/
import Derived.Test.YtphbhfilaknbfaaDoorChkD
namespace Go.Proofs.YtphbhfilaknbfaaDoor
open Go.RowKit

theorem secB_lo (m : Nat) (z : Nat → Nat) (j : Nat) (h : j < m) : secB m z j = z j := by unfold secB; rw [if_pos h]
theorem secB_lt (m : Nat) (z : Nat → Nat) (hz : ∀ j, j < m → z j < 256) (j : Nat) : secB m z j < 256 := by
  unfold secB; split
  · exact hz j (by assumption)
  · exact nb_lt _ _ (crc_lt m z)
theorem told_secB (m : Nat) (z : Nat → Nat) : told m (secB m z) = true := by
  unfold told
  rw [crc_congr (secB_lo m z), strOf_congr 4 (fun j => secB m z (m + j)) (nb (crc m z)) fun j _ => by
    show secB m z (m + j) = _
    unfold secB
    rw [if_neg (by omega), Nat.add_sub_cancel_left]]
  exact sameS_self _

def smallN (j : Nat) : Nat := if j = 0 then 2 else if j = 1 then 0 else 7
def smallF (j t : Nat) : Nat := if j = 0 then [49, 50].getD t 0 else [51, 52, 53, 54, 55, 56, 57].getD t 0
theorem small_sum : 4294967295 - regs 4294967295 smallN smallF 3 = 3421780262 := by decide +kernel
theorem small_text : strOf 4 (secB 4 (layd 1 (fun j => [97].getD j 0))) = ⟨#[97, 0, 0, 0]⟩ := by
  rw [strOf_congr 4 _ _ (secB_lo 4 _)]; decide

set_option maxHeartbeats 1600000 in
theorem small_any (w : World) (ht : Tab w) : Calls Tryd.prog 9 #[] w fun e w' => e = .returned (.bool true) ∧ Below w.heap.size w w' := by
  have HT := Lib.hid ht
  clear ht
  have HL := Lib.hid (fun w : World => lit_slB w 5 (1, 2) [97] (fun j => by rcases j with _ | _ | j <;> simp))
  have HB0 := Lib.hid (fun o => (Below.refl w.heap.size w).alloc (Nat.le_refl _) o)
  have kc := fun (w : World) C n c => kconv w C n c w.heap.size rfl
  have kc2 := fun (w : World) o C n c => kconv (w.alloc o) C n c (w.heap.size + 1) (by simp)
  go_enter Tryd.func9, Tryd.ntmps9
  go_wp2_with fail
  refine (lay_ok _ 1 1 (fun j => [97].getD j 0) 8 4 _ rfl (by decide) (by decide) (by decide) (HL.out w) (HT.out.keep (HB0.out _))).mono ?_
  rintro e w1 ⟨g1, rfl, hg1, hr1, hb1⟩
  have HB1 := Lib.hid ((HB0.out (.cells #[.int .u8 97] 5 (1, 2))).trans (hb1.mono (by simp)))
  have HR1 := Lib.hid hr1
  clear hg1 hr1 hb1
  go_wp2_with fail
  refine (take_both true _ 8 4 8 _ _ rfl (by decide) (by decide) (by decide) (by decide) (HR1.out.slB0 (Nat.le_refl _) (fun j _ => secB_lt 4 _ (fun j _ => layd_lt (m := 4) (fun j _ => by rcases j with _ | _ | j <;> simp) j (by assumption)) j)) (HT.out.keep HB1.out) (told_secB 4 _)).mono ?_
  rintro e w2 ⟨g2, rfl, hg2, hr2, hb2⟩
  have HB2 := Lib.hid (HB1.out.trans (hb2.mono HB1.out.size))
  have HR2 := Lib.hid hr2
  clear hg2 hr2 hb2
  go_wp2_with fail
  have HB3 := Lib.hid (fun o1 o2 o3 => (((Below.refl w2.heap.size w2).alloc (Nat.le_refl _) o1).alloc (by simp) o2).alloc (by simp; omega) o3)
  have HL2 := Lib.hid (lit_slB w2 5 (2, 3) [49, 50] (fun j => by rcases j with _ | _ | _ | j <;> simp))
  have HL3 := Lib.hid (fun w : World => lit_slB w 5 (7, 8) [51, 52, 53, 54, 55, 56, 57] (fun j => by rcases j with _ | _ | _ | _ | _ | _ | _ | _ | j <;> simp))
  refine (sum_any (w2.heap.size + 1 + 1) 3 3 (fun j => if j = 0 then some ⟨w2.heap.size, 0, none⟩ else if j = 1 then none else some ⟨w2.heap.size + 1, 0, none⟩) smallN smallN smallF _ (by decide) (fun j _ => by unfold smallN; split; decide; split <;> decide) ?_ ?_).mono ?_
  · refine ⟨fun j hj => ?_, fun j hj => ?_⟩
    · rcases (show j = 0 ∨ j = 1 ∨ j = 2 by omega) with rfl | rfl | rfl <;> exact (World.cell?_alloc_at _ _ _ _ (by simp)).trans rfl
    · rcases (show j = 0 ∨ j = 1 ∨ j = 2 by omega) with rfl | rfl | rfl
      · exact (HL2.out.keep ((Below.refl _ _).alloc (Nat.le_refl _) _)).keep ((Below.refl _ _).alloc (Nat.le_refl _) _)
      · exact SlB.nil _ _
      · have h := HL3.out (w2.alloc (.cells #[.int .u8 49, .int .u8 50] 5 (2, 3)))
        rw [show (w2.alloc (.cells #[.int .u8 49, .int .u8 50] 5 (2, 3))).heap.size = w2.heap.size + 1 by simp] at h
        exact h.keep ((Below.refl _ _).alloc (Nat.le_refl _) _)
  · exact (HT.out.keep HB2.out).keep (HB3.out _ _ _)
  rintro e w3 ⟨rfl, rfl⟩
  rw [show ((4294967295 - regs 4294967295 smallN smallF 3 : Nat) : Int) = 3421780262 by rw [small_sum]; rfl]
  have HB4 := Lib.hid (HB2.out.trans ((HB3.out (.cells #[.int .u8 49, .int .u8 50] 5 (2, 3)) (.cells #[.int .u8 51, .int .u8 52, .int .u8 53, .int .u8 54, .int .u8 55, .int .u8 56, .int .u8 57] 5 (7, 8)) (.cells #[.slice (some ⟨w2.heap.size, 0, none⟩) 2 2, .slice none 0 0, .slice (some ⟨w2.heap.size + 1, 0, none⟩) 7 7] 22)).mono HB2.out.size))
  have hcv := convRowX (cap := 4) (HR2.out.keep (HB3.out (.cells #[.int .u8 49, .int .u8 50] 5 (2, 3)) (.cells #[.int .u8 51, .int .u8 52, .int .u8 53, .int .u8 54, .int .u8 55, .int .u8 56, .int .u8 57] 5 (7, 8)) (.cells #[.slice (some ⟨w2.heap.size, 0, none⟩) 2 2, .slice none 0 0, .slice (some ⟨w2.heap.size + 1, 0, none⟩) 7 7] 22))).rowX (secB 4 (layd 1 (fun j => [97].getD j 0))) (Nat.le_refl _) (fun _ _ => rfl)
  rw [small_text] at hcv
  go_wp2_with fail
  go_ret
  exact ⟨rfl, HB4.out⟩
end Go.Proofs.YtphbhfilaknbfaaDoor
