/- Contracts of package check: Lay, Take. -/
import Derived.Test.YtphbhfilaknbfaaDoorChkB
import Derived.Test.YtphbhfilaknbfaaDoorRowB
namespace Go.Proofs.YtphbhfilaknbfaaDoor
open Go.RowKit

/-- bytes with noughts behind -/
def layd (n : Nat) (f : Nat → Nat) (j : Nat) : Nat := if j < n then f j else 0
/-- m bytes and their checksum -/
def secB (m : Nat) (z : Nat → Nat) (j : Nat) : Nat := if j < m then z j else nb (crc m z) (j - m)
theorem layd_lt {n m : Nat} {f : Nat → Nat} (hf : ∀ j, j < n → f j < 256) (j : Nat) (_hj : j < m) : layd n f j < 256 := by
  unfold layd; split
  · exact hf j (by assumption)
  · decide

set_option maxHeartbeats 800000 in
theorem lay_ok (A : Option Addr) (n cap : Nat) (f : Nat → Nat) (s m : Nat) (w : World) (hs : s = m + 4) (h1 : 1 ≤ m) (h2 : s ≤ 4096) (hn : n ≤ m) (hA : SlB w A n f) (ht : Tab w) :
    Calls Tryd.prog 14 #[.slice A n cap, .int .i64 s] w fun e w' => ∃ g, e = .returned (.tuple #[.slice (some ⟨g, 0, none⟩) s s, .int .i64 0]) ∧ w.heap.size ≤ g ∧ RowB w' g s (secB m (layd n f)) ∧ Below w.heap.size w w' := by
  have HA := Lib.hid hA
  have HT := Lib.hid ht
  have HM := Lib.hid hs
  have e4 : (s : Int) - 4 = (m : Nat) := by omega
  have hmk := mk8 s (by omega)
  have h5 : (5 : Int) ≤ s := by omega
  have h6 : (s : Int) ≤ 4096 := by omega
  have h7 : (m : Int) ≤ s := by omega
  have hd : decide (m < n) = false := by simp; omega
  have HB1 := Lib.hid ((Below.refl w.heap.size w).alloc (Nat.le_refl _) (.cells (madeCells #[.int .u8 0] s) 5))
  have HF := Lib.hid (fun j (hj : j < n) => hA.byte hj)
  have HK := Lib.hid (show n = Nat.min n s from (Nat.min_eq_left (by omega)).symm)
  have HFit := Lib.hid (show 0 + n ≤ s by omega)
  clear hA ht hs
  go_enter Tryd.func14, Tryd.ntmps14
  go_wp2_with (first | (go_at_call 20; refine (isSize_yes _ _ (by omega) (by omega)).mono ?_; rintro e w' ⟨rfl, rfl⟩) | ((refine wpList_copyB rfl (.tmp 20) (.tmp 21) rfl _ _ _ _ _ _ rfl rfl w.heap.size 0 s (fun _ => 0) (rowB_made w s) f (HA.out.keep HB1.out) n HK.out (fun _ => rfl) HFit.out w.heap.size w HB1.out (Nat.le_refl _) ?_); intro w2 hr2 hb2; have HR2 := Lib.hid (hr2.congr (f := layd n f) fun j _ => by unfold putB layd; simp only [Nat.zero_le, true_and, Nat.zero_add, Nat.sub_zero]); have HB2 := Lib.hid hb2; clear hr2 hb2))
  have HZ := Lib.hid (fun j (hj : j < s) => layd_lt HF.out j hj)
  refine (sumBytes_any _ m s (layd n f) _ (by omega) (HR2.out.slB0 (by omega) HZ.out) (HT.out.keep HB2.out)).mono ?_
  rintro e w3 ⟨rfl, hb3⟩
  have HR3 := Lib.hid (HR2.out.keep hb3)
  have HB3 := Lib.hid (HB2.out.trans (hb3.mono HB2.out.size))
  have hgz := HR3.out.lt
  clear hb3
  have hl := crc_lt m (layd n f)
  obtain ⟨q, hq⟩ : ∃ q, crc m (layd n f) = q := ⟨_, rfl⟩
  have HQ := Lib.hid hq
  rw [hq] at hl ⊢
  have HL := Lib.hid hl
  clear hq hl
  go_wp2_with fail
  have HS4 := Lib.hid (four_slB w3 41 (nb q) (fun j => nb_lt q j HL.out))
  have HR4 := Lib.hid (HR3.out.alloc (.cells #[.int .u8 (nb q 0 : Nat), .int .u8 (nb q 1 : Nat), .int .u8 (nb q 2 : Nat), .int .u8 (nb q 3 : Nat)] 41))
  have HB4 := Lib.hid (HB3.out.alloc HB3.out.size (.cells #[.int .u8 (nb q 0 : Nat), .int .u8 (nb q 1 : Nat), .int .u8 (nb q 2 : Nat), .int .u8 (nb q 3 : Nat)] 41))
  have hms : (m : Int) < s := by have := HM.out; omega
  have hne : s ≠ m := by have := HM.out; omega
  have hsm : s - m = 4 := by have := HM.out; omega
  have HF4 := Lib.hid (show m + 4 ≤ s by have := HM.out; omega)
  generalize (w3.alloc (.cells #[.int .u8 (nb q 0 : Nat), .int .u8 (nb q 1 : Nat), .int .u8 (nb q 2 : Nat), .int .u8 (nb q 3 : Nat)] 41)) = W4 at *
  go_region_law ((refine step_copyB rfl (.tmp 29) (.tmp 30) rfl _ _ _ _ _ _ rfl rfl w.heap.size m s (layd n f) HR4.out (nb q) HS4.out 4 rfl (fun _ => rfl) HF4.out w.heap.size w (by first | exact HB4.out | exact HB4.out.drew) (Nat.le_refl _) ?_); intro w5 hr5 hb5; have HR5 := Lib.hid hr5; have HB5 := Lib.hid hb5; clear hr5 hb5)
  all_goals
    go_wp2_with fail
    go_ret2
    exact ⟨w.heap.size, rfl, Nat.le_refl _, HR5.out.congr (fun j hj => by
      unfold putB secB
      rw [HQ.out]
      by_cases h : j < m
      · rw [if_neg (by omega), if_pos h]
      · rw [if_pos ⟨by omega, by have := HM.out; omega⟩, if_neg h]), HB5.out⟩

set_option maxHeartbeats 400000 in
theorem lay_arg (A : Option Addr) (n cap : Nat) (s : Int) (w : World) (h : s < 5 ∨ 4096 < s) :
    Calls Tryd.prog 14 #[.slice A n cap, .int .i64 s] w fun e w' => e = .returned (.tuple #[.slice none 0 0, .int .i64 1]) ∧ w = w' := by
  have H := Lib.hid h
  clear h
  go_enter Tryd.func14, Tryd.ntmps14
  go_wp2_with (go_at_call 20; refine (isSize_no _ _ H.out).mono ?_; rintro e w' ⟨rfl, rfl⟩)
  go_ret2
  exact ⟨rfl, rfl⟩
set_option maxHeartbeats 400000 in
theorem lay_long (A : Option Addr) (n cap : Nat) (s : Int) (w : World) (h1 : 5 ≤ s) (h2 : s ≤ 4096) (hn : s - 4 < n) :
    Calls Tryd.prog 14 #[.slice A n cap, .int .i64 s] w fun e w' => e = .returned (.tuple #[.slice none 0 0, .int .i64 2]) ∧ w = w' := by
  go_enter Tryd.func14, Tryd.ntmps14
  go_wp2_with (go_at_call 20; refine (isSize_yes _ _ (by omega) (by omega)).mono ?_; rintro e w' ⟨rfl, rfl⟩)
  go_ret2
  exact ⟨rfl, rfl⟩
end Go.Proofs.YtphbhfilaknbfaaDoor
