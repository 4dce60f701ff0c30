/- Contracts of package aes: what each use of a key needs. -/
import Derived.Test.YtgfdnhpfdbaddaaAesB
namespace Go.Proofs.Ytgfdnhpfdbaddaa
open Go.RowKit

theorem gm2_dbl : ∀ a, a < 256 → gm 2 a = dbl a := by decide +kernel
/-- a table behind k of its entries -/
def tabk (f : Nat → Nat) (k j : Nat) : Nat := if j < k then f j else 0
def untab (k y : Nat) : Nat := if unbox y < k then unbox y else 0
theorem tabk_step (f : Nat → Nat) (k j : Nat) : (if j = k then f k else tabk f k j) = tabk f (k + 1) j := by
  unfold tabk
  by_cases e : j = k
  · subst e; rw [if_pos rfl, if_pos (Nat.lt_succ_self _)]
  · rw [if_neg e]
    by_cases h : j < k
    · rw [if_pos h, if_pos (by omega)]
    · rw [if_neg h, if_neg (by omega)]
theorem tabk_all (f : Nat → Nat) (j : Nat) (h : j < 256) : tabk f 256 j = f j := if_pos h
theorem untab_step {k : Nat} (hk : k < 256) (y : Nat) (hy : y < 256) : (if y = box k then k else untab k y) = untab (k + 1) y := by
  unfold untab
  by_cases e : y = box k
  · rw [if_pos e, e, unbox_box hk, if_pos (Nat.lt_succ_self _)]
  · have : unbox y ≠ k := fun h => e (by rw [← h, box_unbox hy])
    rw [if_neg e]
    by_cases h : unbox y < k
    · rw [if_pos h, if_pos (by omega)]
    · rw [if_neg h, if_neg (by omega)]
theorem untab_all (y : Nat) (h : y < 256) : untab 256 y = unbox y := if_pos (unbox_lt h)

set_option maxRecDepth 100000 in
set_option maxHeartbeats 1600000 in
theorem prepare_any (g n : Nat) (key : Nat → Nat) (w : World) (hn : n = 4 ∨ n = 8) (hkey : By (4 * n) key) (hk : KeyMem w g n 0 1 (sch n key 0) (fun _ => 0) (fun _ => 0) (fun _ => 0)) :
    Calls Try.prog 33 #[.pointer (some ⟨g, 0, none⟩)] w fun e w' => e = .returned (.tuple #[]) ∧ (KeyMem w' g n 0 1 (ks n key) box unbox dbl ∧ Chg g w w') := by
  have HK := Lib.hid hk
  have HN := Lib.hid hn
  have HY := Lib.hid hkey
  clear hk hn hkey
  go_enter Try.func33, Try.ntmps33
  go_wp2_with fail
  go_loopw [5] (fun v wr => ∃ k : Nat, k ≤ 256 ∧ v = .int .i64 k ∧ KeyMem wr g n 0 1 (sch n key 0) (tabk box k) (untab k) (tabk dbl k) ∧ Chg g w wr) (fun v _ => 256 - (intOf v).toNat)
  case atStart => exact ⟨0, by decide, rfl, HK.out.congr (fun _ _ => rfl) (fun j _ => (if_neg (Nat.not_lt_zero _)).symm) (fun j _ => (if_neg (Nat.not_lt_zero _)).symm) (fun j _ => (if_neg (Nat.not_lt_zero _)).symm), Chg.refl _ _⟩
  case round =>
    obtain ⟨k, hk, rfl, h1, h2⟩ := hrel
    have H1 := Lib.hid h1
    have H2 := Lib.hid h2
    clear h1 h2
    by_cases hlt : k < 256
    · have hbl := box_lt hlt
      have hdl := dbl_lt hlt
      have HBX := Lib.hid fun w => box_any k w hlt
      have HML := Lib.hid fun w => (show Calls Try.prog 45 #[.int .u8 2, .int .u8 (k : Nat)] w fun e w' => e = .returned (.int .u8 (dbl k : Nat)) ∧ w = w' by rw [← gm2_dbl k hlt]; exact mul_any 2 k w (by decide) hlt)
      have HM1 := Lib.hid (((H1.out.setBox hlt (k := 244 + k) rfl (box k) rfl).congr (fun _ _ => rfl) (fun j _ => tabk_step box k j) (fun _ _ => rfl) (fun _ _ => rfl)).drew)
      have HC1 := Lib.hid ((H2.out.setCell (a := ⟨g, 244 + k, none⟩) (Or.inl rfl) (.int .u8 (box k : Nat))).drew)
      have hc1 := H1.out.box.cell hlt rfl
      have hf1 := H1.out.box.frozen hlt rfl
      have HT1 := Lib.hid (show tabk box (k + 1) k = box k from if_pos (Nat.lt_succ_self k))
      have HU1 := Lib.hid fun y (hy : y < 256) => untab_step hlt y hy
      generalize hbx : box k = x at *
      clear hbx
      go_wp2_with fail
      go_region_with (go_at_call 44; refine (HBX.out _).mono ?_; rintro e w' ⟨rfl, rfl⟩)
      all_goals
        generalize (wr.setCell ⟨g, 244 + k, none⟩ (.int .u8 (x : Nat))).drew = W1 at *
        clear hc1 hf1
        have hc1 := HM1.out.box.cell hlt rfl
        rw [HT1.out] at hc1
        have hc2 := HM1.out.unbox.cell hbl rfl
        have hf2 := HM1.out.unbox.frozen hbl rfl
        have HM2 := Lib.hid (((HM1.out.setUnbox hbl (k := 500 + x) rfl k rfl).congr (fun _ _ => rfl) (fun _ _ => rfl) (fun j hj => HU1.out j hj) (fun _ _ => rfl)).drew)
        have HC2 := Lib.hid ((HC1.out.setCell (a := ⟨g, 500 + x, none⟩) (Or.inl rfl) (.int .u8 (k : Nat))).drew)
        go_wp2_with fail
        go_region
      all_goals
        generalize (W1.setCell ⟨g, 500 + x, none⟩ (.int .u8 (k : Nat))).drew = W2 at *
        clear hc1 hf2 hc2
        have hc3 := HM2.out.dbl.cell hlt rfl
        have hf3 := HM2.out.dbl.frozen hlt rfl
        have HM3 := Lib.hid (((HM2.out.setDbl hlt (k := 756 + k) rfl (dbl k) rfl).congr (fun _ _ => rfl) (fun _ _ => rfl) (fun _ _ => rfl) (fun j _ => tabk_step dbl k j)).drew)
        have HC3 := Lib.hid ((HC2.out.setCell (a := ⟨g, 756 + k, none⟩) (Or.inl rfl) (.int .u8 (dbl k : Nat))).drew)
        generalize hdx : dbl k = d at *
        clear hdx
        go_wp2_with fail
        go_region_with (go_at_call 45; refine (HML.out _).mono ?_; rintro e w' ⟨rfl, rfl⟩)
      all_goals
        generalize (W2.setCell ⟨g, 756 + k, none⟩ (.int .u8 (d : Nat))).drew = W3 at *
        clear hc3 hf3
        go_wp2_with fail
        go_roundw
        case rel => exact ⟨k + 1, by omega, by go_num, HM3.out, HC3.out⟩
        case measure => simp [intOf]; omega
    · obtain rfl : k = 256 := by omega
      have HM := Lib.hid (H1.out.congr (fun _ _ => rfl) (fun j hj => tabk_all box j hj) (fun j hj => untab_all j hj) (fun j hj => tabk_all dbl j hj))
      have hw := HM.out.words
      have hn4 : (4 : Int) ≤ (n : Nat) := by have := HN.out; omega
      have hn8 : ((n : Nat) : Int) ≤ 8 := by have := HN.out; omega
      have hn9 : n ≤ 8 := by omega
      clear H1
      rw [show ((256 : Nat) : Int) = 256 from rfl]
      go_wp2_with fail
      go_loopw [4] (fun v wx => ∃ k : Nat, k ≤ 3 * n + 28 ∧ v = .int .i64 ((n + k : Nat) : Int) ∧ KeyMem wx g n 0 1 (sch n key k) box unbox dbl ∧ Chg g w wx) (fun v _ => 60 - (intOf v).toNat)
      case atStart => exact ⟨0, Nat.zero_le _, rfl, HM.out, H2.out⟩
      case round =>
        obtain ⟨k, hk, rfl, h1, h2⟩ := hrel
        have H1 := Lib.hid h1
        have H3 := Lib.hid h2
        clear h1 h2
        have hw1 := H1.out.words
        by_cases hlt : k < 3 * n + 28
        · obtain ⟨i, hi⟩ : ∃ i, n + k = i := ⟨_, rfl⟩
          have hi2 : i < (n + 7) * 4 := by omega
          have hin : n ≤ i := by omega
          have hi60 : i < 60 := by omega
          have HMW := Lib.hid (make_any g n i 1 (sch n key k) unbox dbl _ HN.out hin hi60 (fun j _ => sch_by (by have := HN.out; omega) HY.out k j) H1.out)
          have HI := Lib.hid hi
          rw [hi]
          clear hi
          go_wp2_with (first | (go_at_call 35; refine (last_any g n _ hn9 hw1).mono ?_; rintro e w' ⟨rfl, rfl⟩) | (go_at_call 46; refine HMW.out.mono ?_; rintro e w' ⟨rfl, h1, h2⟩; have HM5 := Lib.hid h1; have HC5 := Lib.hid h2; clear h1 h2))
          go_roundw
          case rel => exact ⟨k + 1, by omega, by rw [← HI.out]; go_num, by
            have h := HM5.out
            rw [← HI.out] at h
            exact h, H3.out.trans HC5.out⟩
          case measure => simp [intOf]; omega
        · obtain rfl : k = 3 * n + 28 := by omega
          have hend : ¬ ((n + (3 * n + 28) : Nat) : Int) < ((n : Int) + 6 + 1) * 16 / 4 := by omega
          have HR := Lib.hid (show KeyMem wr g n 0 1 (ks n key) box unbox dbl from H1.out)
          generalize n + (3 * n + 28) = e at *
          clear H1 hk hlt
          go_wp2_with ((go_at_call 35; refine (last_any g n _ hn9 hw1).mono ?_; rintro e w' ⟨rfl, rfl⟩))
          go_end0
          exact ⟨rfl, HR.out, H3.out⟩
end Go.Proofs.Ytgfdnhpfdbaddaa
