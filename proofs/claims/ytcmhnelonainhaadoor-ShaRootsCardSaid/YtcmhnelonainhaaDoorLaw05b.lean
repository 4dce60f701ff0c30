/- The laws' small case (layer 5). -/
import Derived.Test.YtcmhnelonainhaaDoorLaw05a
import Derived.Test.YtcmhnelonainhaaDoorShaC
namespace Go.Proofs.YtcmhnelonainhaaDoor
open Go.RowKit
theorem abc_text : strOf 32 (sha 3 abcF) = ⟨#[186, 120, 22, 191, 143, 1, 207, 234, 65, 65, 64, 222, 93, 174, 34, 35, 176, 3, 97, 163, 150, 23, 122, 156, 180, 16, 255, 97, 242, 0, 21, 173]⟩ := by
  rw [strOf_congr 32 _ _ abc_sha]; decide
set_option maxRecDepth 100000 in
set_option maxHeartbeats 1600000 in
theorem small_any (w : World) (ht : GT w) : Calls Tryd.prog 10 #[] w fun e w' => e = .returned (.bool true) ∧ Below w.heap.size w w' := by
  have HT := Lib.hid ht
  clear ht
  have HL := Lib.hid (lit_slB w 5 (1, 2) [97] (fun j => by rcases j with _ | _ | j <;> simp))
  have HL2 := Lib.hid (fun w : World => lit_slB w 5 (2, 3) [98, 99] (fun j => by rcases j with _ | _ | _ | j <;> simp))
  have kc := fun (w : World) C n c => kconv w C n c w.heap.size rfl
  have kc2 := fun (w : World) o C n c => kconv (w.alloc o) C n c (w.heap.size + 1) (by simp)
  go_enter Tryd.func10, Tryd.ntmps10
  go_wp2_with fail
  have hb2 : Below w.heap.size w ((w.alloc (.cells #[.int .u8 97] 5 (1, 2))).alloc (.cells #[.int .u8 98, .int .u8 99] 5 (2, 3))) := ((Below.refl _ _).alloc (Nat.le_refl _) _).alloc (by simp) _
  have h2 := HL2.out (w.alloc (.cells #[.int .u8 97] 5 (1, 2)))
  have e2 : ((w.alloc (.cells #[.int .u8 97] 5 (1, 2))).alloc (.cells #[.int .u8 98, .int .u8 99] 5 (2, 3))).heap.size = w.heap.size + 1 + 1 := by simp
  have e1 : (w.alloc (.cells #[.int .u8 97] 5 (1, 2))).heap.size = w.heap.size + 1 := by simp
  rw [e1] at h2
  have HS := sum2_any ((w.alloc (.cells #[.int .u8 97] 5 (1, 2))).alloc (.cells #[.int .u8 98, .int .u8 99] 5 (2, 3))) (some ⟨w.heap.size, 0, none⟩) (some ⟨w.heap.size + 1, 0, none⟩) 1 2 1 2 (fun j => [97].getD j 0) (fun j => [98, 99].getD j 0) abcF (by decide) (by decide) (by decide)
    (HL.out.keep ((Below.refl _ _).alloc (Nat.le_refl _) _)) h2 (by decide) (by decide) (HT.out.keep hb2)
  rw [e2] at HS
  refine HS.mono ?_
  rintro e w1 ⟨d, rfl, hd, ha, hb⟩
  have HB := Lib.hid (hb2.trans (hb.mono hb2.size))
  have HT1 := Lib.hid (HT.out.keep HB.out)
  have hcv := convSl (cap := 32) (ha.slB fun j _ => sha_lt _ _ j) (Nat.le_refl 32)
  rw [show strOf 32 (sha (1 + 2) abcF) = _ from abc_text] at hcv
  clear hb2 h2 e2 e1 HS hd ha hb HT kc kc2 HL HL2
  go_wp2_with fail
  refine (word_in 0 w1 (by decide) HT1.out).mono ?_
  rintro e w2 ⟨rfl, rfl⟩
  rw [show ((kc 0 : Nat) : Int) = 1116352408 from rfl]
  go_wp2_with fail
  go_ret
  exact ⟨rfl, HB.out⟩
end Go.Proofs.YtcmhnelonainhaaDoor
