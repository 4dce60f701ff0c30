/- The reference of layer 11: shapes, cuts, masks, tokens. -/
import Derived.Test.YtgpgleojkldndaaDoorRef11A
import Derived.Test.YtgpgleojkldndaaDoorRef01C
import Derived.Test.YtgpgleojkldndaaDoorRef01N
import Derived.Test.YtgpgleojkldndaaDoorRef01V
import Derived.Test.YtgpgleojkldndaaDoorPanB
import Derived.Lib.QuietBelow
namespace Go.Proofs.YtgpgleojkldndaaDoor
open Go.RowKit

theorem rpack_all (s : ByteArray) (w : World) (hs : s.size ≤ maxLen) :
    Calls Tryd.prog 36 #[.string s] w fun e w' => (∃ v, e = .returned (.tuple #[v, .int .i64 (faultOf s.data.toList)])) ∧ Below w.heap.size w w' := by
  by_cases h : faultOf s.data.toList = 0
  · obtain ⟨hd, hl⟩ := fault_zero h
    exact (rpack_ok s w hd (by rw [Array.length_toList] at hl; exact hl)).mono fun e w' ⟨v, he, _, hb⟩ => ⟨⟨v, by rw [h]; exact he⟩, hb⟩
  · exact (rpack_bad s w hs h).mono fun e w' ⟨he, hw⟩ => ⟨⟨_, he⟩, hw ▸ Below.refl _ _⟩

set_option maxHeartbeats 800000 in
theorem rshaped_any (s : ByteArray) (w : World) (hs : s.size ≤ maxLen) :
    Calls Tryd.prog 22 #[.string s] w fun e w' => e = .returned (.bool (shp s)) ∧ Below w.heap.size w w' := by
  have HS := Lib.hid hs
  unfold maxLen at hs
  by_cases hf : faultOf s.data.toList = 0
  · have hd := (fault_zero hf).1
    have HF := Lib.hid hf
    have HV := Lib.hid (show shp s = (decide (16 ≤ s.size) && decide (s.size ≤ 19)) by unfold shp; rw [hd]; rfl)
    clear hf hd
    by_cases h1 : 16 ≤ s.size
    · have h1' : decide ((16 : Int) ≤ s.size) = true := by simp; omega
      have e1 : decide (16 ≤ s.size) = true := by simp; omega
      by_cases h2 : s.size ≤ 19
      · have h2' : decide ((s.size : Int) ≤ 19) = true := by simp; omega
        have HR := Lib.hid (show shp s = true by rw [HV.out, e1, decide_eq_true h2]; rfl)
        clear h1 h2 e1 HV
        go_enter Tryd.func22, Tryd.ntmps22
        go_wp2_with (go_at_call 36; refine (rpack_all s _ HS.out).mono ?_; rintro e w1 ⟨⟨v, rfl⟩, hb⟩; rw [HF.out])
        go_ret
        exact ⟨by rw [HR.out]; rfl, hb⟩
      · have h2' : decide ((s.size : Int) ≤ 19) = false := by simp; omega
        have HR := Lib.hid (show shp s = false by rw [HV.out, e1, decide_eq_false h2]; rfl)
        clear h1 h2 e1 HV
        go_enter Tryd.func22, Tryd.ntmps22
        go_wp2_with (go_at_call 36; refine (rpack_all s _ HS.out).mono ?_; rintro e w1 ⟨⟨v, rfl⟩, hb⟩; rw [HF.out])
        go_ret
        exact ⟨by rw [HR.out]; rfl, hb⟩
    · have h1' : decide ((16 : Int) ≤ s.size) = false := by simp; omega
      have HR := Lib.hid (show shp s = false by rw [HV.out, decide_eq_false h1]; rfl)
      clear h1 HV
      go_enter Tryd.func22, Tryd.ntmps22
      go_wp2_with (go_at_call 36; refine (rpack_all s _ HS.out).mono ?_; rintro e w1 ⟨⟨v, rfl⟩, hb⟩; rw [HF.out])
      go_ret
      exact ⟨by rw [HR.out]; rfl, hb⟩
  · have HR := Lib.hid (show shp s = false by
      cases h : shp s with
      | false => rfl
      | true =>
        obtain ⟨h1, _, h3⟩ := shp_parts h
        exact absurd (fault_ok h1 (by rw [Array.length_toList]; show s.size ≤ 999; omega)) hf)
    have hf' : (faultOf s.data.toList == 0) = false := by simpa using hf
    clear hf
    go_enter Tryd.func22, Tryd.ntmps22
    go_wp2_with (go_at_call 36; refine (rpack_all s _ HS.out).mono ?_; rintro e w1 ⟨⟨v, rfl⟩, hb⟩)
    go_ret
    exact ⟨by rw [HR.out]; rfl, hb⟩

theorem ris_any (s : ByteArray) (w : World) (hs : s.size ≤ maxLen) :
    Calls Tryd.prog 13 #[.string s] w fun e w' => e = .returned (.bool (isV s)) ∧ Below w.heap.size w w' := by
  cases hz : shp s with
  | false =>
    have HR := Lib.hid (show isV s = false by unfold isV; rw [hz]; rfl)
    have HZ := Lib.hid hz
    clear hz
    go_enter Tryd.func13, Tryd.ntmps13
    go_wp2_with (go_at_call 22; refine (rshaped_any s _ hs).mono ?_; rintro e w1 ⟨rfl, hb⟩; rw [HZ.out])
    go_ret
    exact ⟨by rw [HR.out]; rfl, hb⟩
  | true =>
    have HR := Lib.hid (show isV s = validB s by unfold isV; rw [hz]; rfl)
    have HZ := Lib.hid hz
    clear hz
    go_enter Tryd.func13, Tryd.ntmps13
    go_wp2_with (first | (go_at_call 22; refine (rshaped_any s _ hs).mono ?_; rintro e w1 ⟨rfl, hb⟩; rw [HZ.out]) | (go_at_call 24; refine (rvalid_any s _ hs).mono ?_; rintro e w2 ⟨rfl, rfl⟩))
    go_ret
    exact ⟨by rw [HR.out]; rfl, hb⟩

set_option maxHeartbeats 800000 in
theorem rcut11_any (s : ByteArray) (w : World) (hs : s.size ≤ maxLen) :
    Calls Tryd.prog 11 #[.string s] w fun e w' => e = .returned (.tuple #[.string (pB s), .string (pM s), .string (pL s), .int .i64 (cutE s)]) ∧ Below w.heap.size w w' := by
  have HS := Lib.hid hs
  unfold maxLen at hs
  cases hz : shp s with
  | false =>
    have HR := Lib.hid (show pB s = ⟨#[]⟩ ∧ pM s = ⟨#[]⟩ ∧ pL s = ⟨#[]⟩ ∧ cutE s = 10 from ⟨pB_no hz, pM_no hz, pL_no hz, by unfold cutE; rw [hz]; rfl⟩)
    have HZ := Lib.hid hz
    clear hz
    go_enter Tryd.func11, Tryd.ntmps11
    go_wp2_with (go_at_call 22; refine (rshaped_any s _ HS.out).mono ?_; rintro e w1 ⟨rfl, hb⟩; rw [HZ.out])
    exact bodyPost_ret (v := .tuple #[.string ⟨#[]⟩, .string ⟨#[]⟩, .string ⟨#[]⟩, .int .i64 10]) (by simp [results, Tryd.results11, go_sem]) rfl ⟨by rw [HR.out.1, HR.out.2.1, HR.out.2.2.1, HR.out.2.2.2], hb⟩
  | true =>
    obtain ⟨_, h1, h2⟩ := shp_parts hz
    obtain ⟨n, hn, hn2⟩ : ∃ n : Nat, (s.size : Int) - 4 = n ∧ n = s.size - 4 := ⟨s.size - 4, by omega, rfl⟩
    have hns : n ≤ s.size := by omega
    have hn6 : 6 ≤ n := by omega
    have HR := Lib.hid (show pB s = s.extract 0 6 ∧ pM s = s.extract 6 n ∧ pL s = s.extract n s.size ∧ cutE s = 0 from ⟨pB_yes hz, by rw [pM_yes hz, hn2], by rw [pL_yes hz, hn2], by unfold cutE; rw [hz]; rfl⟩)
    have HZ := Lib.hid hz
    clear hz hn2
    go_enter Tryd.func11, Tryd.ntmps11
    go_wp2_with (go_at_call 22; refine (rshaped_any s _ HS.out).mono ?_; rintro e w1 ⟨rfl, hb⟩; rw [HZ.out])
    go_quiet (fail)
    go_wp2_with fail
    exact bodyPost_ret (v := .tuple #[.string (s.extract 0 6), .string (s.extract 6 n), .string (s.extract n s.size), .int .i64 0]) (by simp [results, Tryd.results11, go_sem]) rfl ⟨by rw [HR.out.1, HR.out.2.1, HR.out.2.2.1, HR.out.2.2.2], drawn hb _⟩

theorem stars_succ (k : Nat) : stars k ++ ⟨#[42]⟩ = stars (k + 1) := by
  apply ba_ext
  rw [app_list]
  show List.replicate k (42 : UInt8) ++ [42] = List.replicate (k + 1) 42
  rw [List.replicate_succ']

theorem rstars_any (c : Nat) (w : World) (hc : c ≤ 1000) :
    Calls Tryd.prog 29 #[.int .i64 c] w fun e w' => e = .returned (.string (stars c)) ∧ w = w' := by
  go_enter Tryd.func29, Tryd.ntmps29
  go_wp2
  go_loop [3, 4] (fun s i => ∃ k : Nat, k ≤ c ∧ i = .int .i64 k ∧ s = .string (stars k)) (fun _ i => c - (intOf i).toNat)
  case atStart => exact ⟨0, Nat.zero_le _, rfl, rfl⟩
  case round =>
    obtain ⟨k, hk, rfl, rfl⟩ := hrel
    by_cases hlt : k < c
    · have HS := Lib.hid (stars_succ k)
      have hz := stars_size k
      generalize stars k = st at *
      have hz1 : ¬ 9223372036854775807 < st.size + (⟨#[42]⟩ : ByteArray).size := by show ¬ _ < st.size + 1; omega
      have hz2 : st.size ≤ 1000 := by omega
      clear hz
      go_wp2
      go_round
      case rel => exact ⟨k + 1, by omega, by go_num, by rw [← HS.out]⟩
      case measure => simp [intOf]; omega
    · obtain rfl : k = c := by omega
      go_wp2
      go_ret
      exact ⟨rfl, rfl⟩
end Go.Proofs.YtgpgleojkldndaaDoor
