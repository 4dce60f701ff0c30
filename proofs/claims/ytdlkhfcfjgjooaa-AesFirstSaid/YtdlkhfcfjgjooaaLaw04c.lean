/- AesFirst. -/
import Derived.Test.YtdlkhfcfjgjooaaLaw04b
namespace Go.Proofs.Ytdlkhfcfjgjooaa
open Go.RowKit

theorem strOf_cat (n m : Nat) (f g h : Nat → Nat) (hf : ∀ i, i < n → f i = h i) (hg : ∀ i, i < m → g i = h (n + i)) : strOf n f ++ strOf m g = strOf (n + m) h := by
  rw [strOf_congr n f h hf, strOf_congr m g (fun i => h (n + i)) hg]
  unfold strOf
  apply ByteArray.ext
  simp only [ByteArray.data_append]
  apply Array.ext'
  simp [List.range_add]
theorem first_cat (n k : Nat) (key : Nat → Nat) (hk : 16 * (k + 1) ≤ 4 * n) : strOf (16 * k) key ++ strOf 16 (fun t => ks n key (16 * k + t)) = strOf (16 * (k + 1)) key := by
  rw [show 16 * (k + 1) = 16 * k + 16 by omega]
  exact strOf_cat _ _ _ _ key (fun _ _ => rfl) fun i hi => ks_key (by omega)
set_option maxRecDepth 100000 in
set_option maxHeartbeats 1600000 in
theorem first_key (A : Option Addr) (len c : Nat) (w : World) (h1 : len ≠ 16) (h2 : len ≠ 32) (h3 : len ≤ 140737488351232) : Calls Try.prog 6 #[.slice A len c] w fun e w' => e = .returned (.bool true) ∧ Below w.heap.size w w' := by
  have hk1 : ((len : Int) != 16) = true := by simp; omega
  have hk2 : ((len : Int) != 32) = true := by simp; omega
  go_enter Try.func6, Try.ntmps6
  go_wp2_with fail
  refine (small_any _).mono ?_
  rintro e w1 ⟨rfl, h1⟩
  have H1 := Lib.hid h1
  clear h1
  go_wp2_with fail
  refine (new_short A len c w1 (by assumption) h2 h3).mono ?_
  rintro e w2 ⟨rfl, rfl⟩
  go_wp2_with fail
  go_ret
  exact ⟨rfl, H1.out⟩
theorem rounds_16 (g : Nat) (key : Nat → Nat) (w : World) (hkey : By 16 key) (hk : KeyAt w g 4 key) :
    Calls Try.prog 14 #[.pointer (some ⟨g, 0, none⟩)] w fun e w' => ∃ L G, e = .returned (.slice (some ⟨L, 0, none⟩) 11 11) ∧ Rounds w w' L 11 11 G (ks 4 key) ∧ KeyReady w' g 4 key ∧ Chg g w w' :=
  rounds_any g 4 key w (Or.inl rfl) hkey hk
set_option maxRecDepth 100000 in
set_option maxHeartbeats 1600000 in
theorem first_16 (A : Option Addr) (c : Nat) (key : Nat → Nat) (w : World) (hA : SlB w A 16 key) : Calls Try.prog 6 #[.slice A 16 c] w fun e w' => e = .returned (.bool true) ∧ Below w.heap.size w w' := by
  have HA := Lib.hid hA
  have HY := Lib.hid (show By 16 key from fun j hj => hA.byte hj)
  clear hA
  go_enter Try.func6, Try.ntmps6
  go_wp2_with fail
  refine (small_any _).mono ?_
  rintro e w1 ⟨rfl, h1⟩
  have H1 := Lib.hid h1
  clear h1
  go_wp2_with fail
  refine (new_at A 16 4 c key w1 rfl (Or.inl rfl) (HA.out.keep H1.out)).mono ?_
  rintro e w2 ⟨g, rfl, h1, h2, h3⟩
  have HG := Lib.hid (Nat.le_trans H1.out.size h1)
  have HK2 := Lib.hid h2
  have HB2 := Lib.hid (H1.out.trans (h3.mono H1.out.size))
  clear h1 h2 h3
  go_wp2_with fail
  refine (rounds_16 g key w2 HY.out HK2.out).mono ?_
  rintro e w3 ⟨L, G, rfl, h1, h2, h3⟩
  have HR := Lib.hid h1
  have HB3 := Lib.hid (HB2.out.trans (h3.below HB2.out.size HG.out))
  clear h1 h2 h3
  go_wp2_with fail
  go_loopw [7, 8] (fun v7 v8 wr => ∃ k m : Nat, k ≤ 1 ∧ m = 16 * k ∧ v8 = .int .i64 (k : Nat) ∧ v7 = .string (strOf m key) ∧ wr = w3) (fun _ v8 _ => 1 - (intOf v8).toNat)
  case atStart => exact ⟨0, 0, by decide, rfl, rfl, rfl, rfl⟩
  case round =>
    obtain ⟨k, m, hk, hm, rfl, rfl, hw⟩ := hrel
    subst hw
    by_cases hlt : k < 1
    · have HST := Lib.hid (show strOf m key ++ strOf 16 (fun t => ks 4 key (16 * k + t)) = strOf (m + 16) key by
        subst hm; exact first_cat 4 k key (by omega))
      have hcell := HR.out.list.cell (i := k) (by omega)
      rw [if_pos (show k < 11 by omega)] at hcell
      have hcv := convSl (cap := 16) ((HR.out.rows k (by omega)).slB0 (Nat.le_refl _) (fun j hj => ks_by (by decide) HY.out _)) (Nat.le_refl 16)
      have hki : (k : Int) < 11 := by omega
      have hz1 := strOf_size m key
      have hz2 := strOf_size 16 (fun t => ks 4 key (16 * k + t))
      generalize strOf m key = st at *
      generalize strOf 16 (fun t => ks 4 key (16 * k + t)) = sr at *
      have hz3 : st.size ≤ 32 := by omega
      have hz4 : sr.size ≤ 16 := by omega
      clear hz1 hz2
      go_wp2_with fail
      go_roundw
      case rel => exact ⟨k + 1, m + 16, by omega, by omega, by go_num, congrArg Value.string HST.out, trivial⟩
      case measure => simp [intOf]; omega
    · obtain rfl : k = 1 := by omega
      obtain rfl : m = 16 := by omega
      have hca := convSl (cap := c) (HA.out.keep HB3.out) (Nat.le_refl 16)
      clear hm hlt hk
      generalize strOf 16 key = y at *
      go_wp2_with fail
      go_ret
      exact ⟨rfl, HB3.out⟩
theorem rounds_32 (g : Nat) (key : Nat → Nat) (w : World) (hkey : By 32 key) (hk : KeyAt w g 8 key) :
    Calls Try.prog 14 #[.pointer (some ⟨g, 0, none⟩)] w fun e w' => ∃ L G, e = .returned (.slice (some ⟨L, 0, none⟩) 15 15) ∧ Rounds w w' L 15 15 G (ks 8 key) ∧ KeyReady w' g 8 key ∧ Chg g w w' :=
  rounds_any g 8 key w (Or.inr rfl) hkey hk
set_option maxRecDepth 100000 in
set_option maxHeartbeats 1600000 in
theorem first_32 (A : Option Addr) (c : Nat) (key : Nat → Nat) (w : World) (hA : SlB w A 32 key) : Calls Try.prog 6 #[.slice A 32 c] w fun e w' => e = .returned (.bool true) ∧ Below w.heap.size w w' := by
  have HA := Lib.hid hA
  have HY := Lib.hid (show By 32 key from fun j hj => hA.byte hj)
  clear hA
  go_enter Try.func6, Try.ntmps6
  go_wp2_with fail
  refine (small_any _).mono ?_
  rintro e w1 ⟨rfl, h1⟩
  have H1 := Lib.hid h1
  clear h1
  go_wp2_with fail
  refine (new_at A 32 8 c key w1 rfl (Or.inr rfl) (HA.out.keep H1.out)).mono ?_
  rintro e w2 ⟨g, rfl, h1, h2, h3⟩
  have HG := Lib.hid (Nat.le_trans H1.out.size h1)
  have HK2 := Lib.hid h2
  have HB2 := Lib.hid (H1.out.trans (h3.mono H1.out.size))
  clear h1 h2 h3
  go_wp2_with fail
  refine (rounds_32 g key w2 HY.out HK2.out).mono ?_
  rintro e w3 ⟨L, G, rfl, h1, h2, h3⟩
  have HR := Lib.hid h1
  have HB3 := Lib.hid (HB2.out.trans (h3.below HB2.out.size HG.out))
  clear h1 h2 h3
  go_wp2_with fail
  go_loopw [7, 8] (fun v7 v8 wr => ∃ k m : Nat, k ≤ 2 ∧ m = 16 * k ∧ v8 = .int .i64 (k : Nat) ∧ v7 = .string (strOf m key) ∧ wr = w3) (fun _ v8 _ => 2 - (intOf v8).toNat)
  case atStart => exact ⟨0, 0, by decide, rfl, rfl, rfl, rfl⟩
  case round =>
    obtain ⟨k, m, hk, hm, rfl, rfl, hw⟩ := hrel
    subst hw
    by_cases hlt : k < 2
    · have HST := Lib.hid (show strOf m key ++ strOf 16 (fun t => ks 8 key (16 * k + t)) = strOf (m + 16) key by
        subst hm; exact first_cat 8 k key (by omega))
      have hcell := HR.out.list.cell (i := k) (by omega)
      rw [if_pos (show k < 15 by omega)] at hcell
      have hcv := convSl (cap := 16) ((HR.out.rows k (by omega)).slB0 (Nat.le_refl _) (fun j hj => ks_by (by decide) HY.out _)) (Nat.le_refl 16)
      have hki : (k : Int) < 15 := by omega
      have hz1 := strOf_size m key
      have hz2 := strOf_size 16 (fun t => ks 8 key (16 * k + t))
      generalize strOf m key = st at *
      generalize strOf 16 (fun t => ks 8 key (16 * k + t)) = sr at *
      have hz3 : st.size ≤ 32 := by omega
      have hz4 : sr.size ≤ 16 := by omega
      clear hz1 hz2
      go_wp2_with fail
      go_roundw
      case rel => exact ⟨k + 1, m + 16, by omega, by omega, by go_num, congrArg Value.string HST.out, trivial⟩
      case measure => simp [intOf]; omega
    · obtain rfl : k = 2 := by omega
      obtain rfl : m = 32 := by omega
      have hca := convSl (cap := c) (HA.out.keep HB3.out) (Nat.le_refl 32)
      clear hm hlt hk
      generalize strOf 32 key = y at *
      go_wp2_with fail
      go_ret
      exact ⟨rfl, HB3.out⟩
theorem first_any (A : Option Addr) (len c : Nat) (key : Nat → Nat) (w : World) (h3 : len ≤ 140737488351232) (hA : SlB w A len key) :
    Calls Try.prog 6 #[.slice A len c] w fun e w' => e = .returned (.bool true) ∧ Below w.heap.size w w' := by
  by_cases h : len = 16
  · subst h; exact first_16 A c key w hA
  · by_cases h' : len = 32
    · subst h'; exact first_32 A c key w hA
    · exact first_key A len c w h h' h3
end Go.Proofs.Ytdlkhfcfjgjooaa
