/- The reference of layer 1: Number, Text. -/
import Derived.Test.YtejljmpjdhdoiaaDoorDigC
import Derived.Test.YtejljmpjdhdoiaaDoorDigN
import Derived.Test.YtejljmpjdhdoiaaDoorRef0
namespace Go.Proofs.YtejljmpjdhdoiaaDoor
open Go.RowKit

set_option maxHeartbeats 800000 in
theorem rnumber_any (s : ByteArray) (w : World) (hs : s.size ≤ maxLen) :
    Calls Tryd.prog 27 #[.string s] w fun e w' => e = .returned (.tuple #[.int .i64 (dnV s), .int .i64 (dnE s)]) ∧ ∃ n, w' = w.drewN n := by
  by_cases hf : faultOf s.data.toList = 0
  · obtain ⟨hd, hl⟩ := fault_zero hf
    have hl' : s.size ≤ 999 := by rw [Array.length_toList] at hl; exact hl
    have HD := Lib.hid hd
    have HF := Lib.hid hf
    clear hf hd hl
    by_cases h0 : s.size = 0
    · have e1 : s.toList = [] := by
        rw [ByteArray.toList_eq]; exact List.eq_nil_of_length_eq_zero (Array.length_toList.trans h0)
      have HB := Lib.hid (show dnE s = 3 by unfold dnE; rw [if_neg (by rw [HF.out]; decide), if_pos h0])
      have HV := Lib.hid (show dnV s = 0 by unfold dnV; rw [HB.out]; rfl)
      clear h0
      go_enter Tryd.func27, Tryd.ntmps27
      go_wp2_with (go_at_call 35; refine (texts_any s _ hs).mono ?_; rintro e w' ⟨rfl, rfl⟩; rw [HF.out])
      go_ret2
      exact ⟨by rw [HB.out, HV.out]; rfl, 0, rfl⟩
    · have e1 := toList_of_size (s := s) (by omega)
      have e2 : ¬ s.toList = [] := by intro h; rw [h] at e1; cases e1
      go_enter Tryd.func27, Tryd.ntmps27
      go_wp2_with (go_at_call 35; refine (texts_any s _ hs).mono ?_; rintro e w' ⟨rfl, rfl⟩; rw [HF.out])
      go_loopw [5, 6] (fun t i wr => ∃ k : Nat, k ≤ s.size ∧ i = .int .i64 k ∧ t = .int .i64 (acc s k) ∧ acc s k ≤ 9223372036854775807 ∧ ∃ n, wr = w.drewN n) (fun _ i _ => s.size - (intOf i).toNat)
      case atStart => exact ⟨0, Nat.zero_le _, rfl, rfl, by simp [acc], 0, rfl⟩
      case round =>
        obtain ⟨k, hk, rfl, rfl, hle, hn⟩ := hrel
        have HN := Lib.hid hn
        clear hn
        by_cases hlt : k < s.size
        · obtain ⟨hb1, hb2⟩ := dig_at s k hlt HD.out
          obtain ⟨d, e0, hd9⟩ : ∃ d : Nat, (s[k].toNat : Int) - 48 = d ∧ d < 10 := ⟨s[k].toNat - 48, by omega, by omega⟩
          have HS := Lib.hid (show acc s (k + 1) = 10 * acc s k + d by simp only [acc]; rw [dg_eq s k hlt]; omega)
          generalize hq : acc s k = q at *
          have HQ := Lib.hid hq
          clear hq
          by_cases hbig : 9223372036854775807 < 10 * q + d
          · have ht : ((9223372036854775807 : Int) - d) / 10 < q := by omega
            have ht2 : (0 : Int) ≤ 9223372036854775807 - d := by omega
            have HB := Lib.hid (show dnE s = 5 by
              unfold dnE; rw [if_neg (by rw [HF.out]; decide), if_neg h0, if_pos (by have := acc_mono s (k + 1) s.size (by omega); have := HS.out; omega)])
            have HV := Lib.hid (show dnV s = 0 by unfold dnV; rw [HB.out]; rfl)
            clear hbig
            go_wp2_with fail
            go_ret2
            exact ⟨by rw [HB.out, HV.out]; rfl, HN.out⟩
          · have ht : ¬ ((9223372036854775807 : Int) - d) / 10 < q := by omega
            have ht2 : (0 : Int) ≤ 9223372036854775807 - d := by omega
            go_wp2_with fail
            go_roundw
            case rel => exact ⟨k + 1, by omega, by go_num, by rw [HS.out]; go_num, by rw [HS.out]; omega, HN.out⟩
            case measure => simp [intOf]; omega
        · obtain rfl : k = s.size := by omega
          have HB := Lib.hid (show dnE s = 0 by unfold dnE; rw [if_neg (by rw [HF.out]; decide), if_neg h0, if_neg (by omega)])
          have HV := Lib.hid (show dnV s = acc s s.size by unfold dnV; rw [if_pos HB.out])
          go_wp2_with fail
          go_ret2
          exact ⟨by rw [HB.out, HV.out]; rfl, HN.out⟩
  · have hf' : (faultOf s.data.toList != 0) = true := by simpa using hf
    have HB := Lib.hid (show dnE s = faultOf s.data.toList by unfold dnE; rw [if_pos hf])
    have HV := Lib.hid (show dnV s = 0 by unfold dnV; rw [HB.out, if_neg hf])
    clear hf
    go_enter Tryd.func27, Tryd.ntmps27
    go_wp2_with (go_at_call 35; refine (texts_any s _ hs).mono ?_; rintro e w' ⟨rfl, rfl⟩)
    go_ret2
    exact ⟨by rw [HB.out, HV.out]; rfl, 0, rfl⟩

theorem rt_step (n i : Nat) : (ByteArray.mk #[chr (48 + n / 10 ^ i % 10)]) ++ strOf i (td n i) = strOf (i + 1) (td n (i + 1)) := by
  unfold strOf
  rw [List.range_succ_eq_map]
  apply ByteArray.ext
  simp only [ByteArray.data_append, List.map_cons, List.map_map]
  apply Array.ext'
  simp [td]
  intro a ha
  rw [show i - (a + 1) = i - 1 - a by omega]

set_option maxHeartbeats 800000 in
theorem rtext_ok (n k : Nat) (w : World) (hn : n ≤ 9223372036854775807) (h1 : 1 ≤ k) (h2 : k ≤ 19) :
    Calls Tryd.prog 31 #[.int .i64 n, .int .i64 k] w fun e w' => e = .returned (.tuple #[.string (textV n k), .int .i64 (textE n k)]) ∧ Below w.heap.size w w' := by
  go_enter Tryd.func31, Tryd.ntmps31
  go_wp2_with fail
  go_loopw [0, 6, 7] (fun t s c wr => ∃ i : Nat, i ≤ k ∧ c = .int .i64 i ∧ t = .int .i64 (n / 10 ^ i : Nat) ∧ s = .string (strOf i (td n i)) ∧ Below w.heap.size w wr) (fun _ _ c _ => k - (intOf c).toNat)
  case atStart => exact ⟨0, Nat.zero_le _, rfl, by simp, rfl, Below.refl _ _⟩
  case round =>
    obtain ⟨i, hi, rfl, rfl, rfl, hb⟩ := hrel
    have HS := Lib.hid (pow_step n i)
    have HM := Lib.hid (show n / 10 ^ i ≤ n from Nat.div_le_self _ _)
    have HB := Lib.hid hb
    clear hb
    by_cases hlt : i < k
    · have HT := Lib.hid (rt_step n i)
      have hz := HM.out
      have hsz := strOf_size i (td n i)
      have HS3 := Lib.hid hsz
      generalize strOf i (td n i) = st at *
      have hsz' : st.size ≤ 19 := by omega
      clear hsz
      generalize n / 10 ^ i = m at *
      have hcv := conv1 (48 + m % 10) wr
      rw [show ((48 : Int) + m % 10).toNat = 48 + m % 10 by omega] at hcv
      have hz1 : (ByteArray.mk #[chr (48 + m % 10)]).size ≤ 1 := Nat.le_refl 1
      go_wp2_with fail
      go_roundw
      case rel => exact ⟨i + 1, by omega, by go_num, by rw [HS.out]; go_num, by rw [← HT.out], HB.out.alloc HB.out.size _⟩
      case measure => simp [intOf]; omega
    · obtain rfl : i = k := by omega
      have HZ := Lib.hid (show textV n i = if n / 10 ^ i = 0 then strOf i (td n i) else ByteArray.empty by
        unfold textV
        by_cases h : n / 10 ^ i = 0
        · rw [if_pos (textE_fit h1 h2 h), if_pos h]; rfl
        · rw [if_neg (by rw [textE_big h1 h2 h]; decide), if_neg h])
      by_cases h0 : n / 10 ^ i = 0
      · have HE := Lib.hid (textE_fit h1 h2 h0)
        have HV := Lib.hid (HZ.out.trans (if_pos h0))
        rw [h0]
        clear h0 HZ HS HM
        go_wp2_with fail
        go_ret2
        exact ⟨ret_sv HV.out.symm HE.out.symm, HB.out⟩
      · have HE := Lib.hid (textE_big h1 h2 h0)
        have HV := Lib.hid (HZ.out.trans (if_neg h0))
        generalize n / 10 ^ i = m at *
        have hm : (0 : Int) < m := by omega
        go_wp2_with fail
        go_ret2
        exact ⟨ret_sv HV.out.symm HE.out.symm, HB.out⟩

set_option maxHeartbeats 400000 in
theorem rtext_bad (n k : Int) (w : World) (h : n < 0 ∨ k < 1 ∨ 19 < k) :
    Calls Tryd.prog 31 #[.int .i64 n, .int .i64 k] w fun e w' => e = .returned (.tuple #[.string (textV n k), .int .i64 (textE n k)]) ∧ Below w.heap.size w w' := by
  have HE := Lib.hid (show textE n k = 1 by unfold textE; rw [if_pos h])
  have HV := Lib.hid (show textV n k = ByteArray.empty by unfold textV; rw [HE.out]; rfl)
  rcases (show n < 0 ∨ (0 ≤ n ∧ k < 1) ∨ (0 ≤ n ∧ 1 ≤ k ∧ 19 < k) by omega) with h | ⟨h, h'⟩ | ⟨h, h', h''⟩
  all_goals
    go_enter Tryd.func31, Tryd.ntmps31
    go_wp2_with fail
    go_ret2
    exact ⟨ret_sv HV.out.symm HE.out.symm, Below.refl _ _⟩

theorem rtext_any (n k : Int) (w : World) (hn : n ≤ 9223372036854775807) :
    Calls Tryd.prog 31 #[.int .i64 n, .int .i64 k] w fun e w' => e = .returned (.tuple #[.string (textV n k), .int .i64 (textE n k)]) ∧ Below w.heap.size w w' := by
  by_cases h : n < 0 ∨ k < 1 ∨ 19 < k
  · exact rtext_bad n k w h
  · obtain ⟨n, rfl⟩ := Int.eq_ofNat_of_zero_le (show 0 ≤ n by omega)
    obtain ⟨k, rfl⟩ := Int.eq_ofNat_of_zero_le (show 0 ≤ k by omega)
    exact rtext_ok n k w (by omega) (by omega) (by omega)
end Go.Proofs.YtejljmpjdhdoiaaDoor
