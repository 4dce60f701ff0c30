import Derived.Test.YtglajdedalikdaaDoorDig4
import Derived.Below
namespace Go.Proofs.YtglajdedalikdaaDoor
open Go.RowKit

def snoc (s : ByteArray) (c : UInt8) : ByteArray := s ++ ⟨#[c]⟩
theorem snoc_list (s : ByteArray) (c : UInt8) : (snoc s c).data.toList = s.data.toList ++ [c] := by
  unfold snoc; simp [ByteArray.data_append]
theorem snoc_size (s : ByteArray) (c : UInt8) : (snoc s c).size = s.size + 1 := by
  unfold snoc; rw [ByteArray.size_append]; rfl
theorem dg_snoc_lt (s : ByteArray) (c : UInt8) (k : Nat) (h : k < s.size) : dg (snoc s c) k = dg s k := by
  unfold dg; rw [snoc_list, List.getD_eq_getElem?_getD, List.getElem?_append_left (by rw [Array.length_toList]; exact h), List.getD_eq_getElem?_getD]
theorem dg_snoc_eq (s : ByteArray) (c : UInt8) : dg (snoc s c) s.size = c.toNat - 48 := by
  unfold dg; rw [snoc_list, List.getD_eq_getElem?_getD, List.getElem?_append_right (by rw [Array.length_toList]; exact Nat.le_refl _)]
  rw [Array.length_toList, show s.size - s.data.size = 0 from Nat.sub_self _]; rfl
theorem psum_snoc (s : ByteArray) (c : UInt8) (k : Nat) (h : k ≤ s.size) : psum (s.size + 1) 0 (snoc s c) k = psum s.size 1 s k := by
  induction k with
  | zero => rfl
  | succ k ih =>
    simp only [psum]
    rw [ih (by omega), dg_snoc_lt s c k (by omega)]
    congr 2
    omega
theorem psum_snoc_all (s : ByteArray) (c : UInt8) : psum (snoc s c).size 0 (snoc s c) (snoc s c).size = psum s.size 1 s s.size + (c.toNat - 48) := by
  rw [snoc_size]
  show psum (s.size + 1) 0 (snoc s c) s.size + _ = _
  rw [psum_snoc s c s.size (Nat.le_refl _), dg_snoc_eq]
  unfold wt; rw [if_pos (by omega)]


theorem oct_snoc (s : ByteArray) (d : Nat) (hd : s.data.toList.all isDig = true) (h : d < 10) : (snoc s (chr (48 + d))).data.toList.all isDig = true := by
  rw [snoc_list, List.all_append, hd]
  have : (chr (48 + d)).toNat = 48 + d := chr_toNat _ (by omega)
  simp [isDig]; omega
set_option maxHeartbeats 800000 in
theorem rluhn_ok (s : ByteArray) (w : World) (hd : s.data.toList.all isDig = true) (hl : s.size ≤ 999) :
    Calls Tryd.prog 18 #[.string s] w fun e w' => e = .returned (.tuple #[.int .i64 (luhnOf s), .int .i64 0]) ∧ Below w.heap.size w w' := by
  have HD := Lib.hid hd
  have HF := Lib.hid (fault_ok hd (by simpa using hl))
  clear hd
  go_enter Tryd.func18, Tryd.ntmps18
  go_wp2_with (go_at_call 29; refine (texts_any _ _ (by unfold maxLen; omega)).mono ?_; rintro e w' ⟨rfl, rfl⟩; rw [HF.out])
  go_loopw [5] (fun i wr => ∃ d : Nat, d ≤ 9 ∧ i = .int .i64 d ∧ (∀ c, c < d → (psum s.size 1 s s.size + c) % 10 ≠ 0) ∧ Below w.heap.size w wr) (fun i _ => 9 - (intOf i).toNat)
  case atStart => exact ⟨0, by omega, rfl, fun c hc => absurd hc (by omega), Below.refl _ _⟩
  case round =>
    obtain ⟨d, hd9, rfl, hno, hb⟩ := hrel
    have HN := Lib.hid hno
    clear hno
    by_cases hlt : d < 9
    · have hcv := conv1 (48 + d) wr
      rw [show ((48 : Int) + d).toNat = 48 + d by omega] at hcv
      have HO := Lib.hid (show (s ++ ByteArray.mk #[chr (48 + d)]).data.toList.all isDig = true from oct_snoc s d HD.out (by omega))
      have HS := Lib.hid (psum_snoc_all s (chr (48 + d)))
      have hz : (s ++ ByteArray.mk #[chr (48 + d)]).size = s.size + 1 := snoc_size s _
      have hz' : (s ++ ByteArray.mk #[chr (48 + d)]).size ≤ 1000 := by omega
      have HU := Lib.hid (show (chr (48 + d)).toNat - 48 = d by rw [chr_toNat _ (by omega)]; omega)
      have hp := psum_le s.size 1 s HD.out s.size
      generalize hq : psum s.size 1 s s.size = q at *
      have HQ := Lib.hid hq
      have HS2 := Lib.hid (show psum (s ++ ByteArray.mk #[chr (48 + d)]).size 0 (s ++ ByteArray.mk #[chr (48 + d)]) (s ++ ByteArray.mk #[chr (48 + d)]).size = q + d from HS.out.trans (by rw [HU.out]))
      clear hq
      by_cases hm : (q + d) % 10 = 0
      · have hm' : (((q + d : Nat) : Int) % 10 == 0) = true := by simp; omega
        have HL := Lib.hid (show luhnOf s = d by unfold luhnOf; rw [HQ.out]; omega)
        go_wp2_with (go_at_call 31; (with_reducible refine (sum_any (s ++ ByteArray.mk #[chr (48 + d)]) _ hz' HO.out).mono ?_); rintro e w' ⟨rfl, rfl⟩; rw [HS2.out])
        go_ret2
        exact ⟨ret_two HL.out.symm, hb.alloc hb.size _⟩
      · have hm' : (((q + d : Nat) : Int) % 10 == 0) = false := by simp; omega
        have HN2 := Lib.hid (show ∀ c, c < d + 1 → (q + c) % 10 ≠ 0 from fun c hc => by
          rcases Nat.lt_or_ge c d with h | h
          · exact HN.out c h
          · obtain rfl : c = d := by omega
            exact hm)
        clear hm
        go_wp2_with (go_at_call 31; (with_reducible refine (sum_any (s ++ ByteArray.mk #[chr (48 + d)]) _ hz' HO.out).mono ?_); rintro e w' ⟨rfl, rfl⟩; rw [HS2.out])
        go_roundw
        case rel => exact ⟨d + 1, by omega, by go_num, HN2.out, hb.alloc hb.size _⟩
        case measure => simp [intOf]; omega
    · obtain rfl : d = 9 := by omega
      have HL := Lib.hid (show luhnOf s = 9 by
        unfold luhnOf
        have h := HN.out
        generalize psum s.size 1 s s.size = q at *
        have h0 := h 0 (by omega); have h1 := h 1 (by omega); have h2 := h 2 (by omega); have h3 := h 3 (by omega); have h4 := h 4 (by omega)
        have h5 := h 5 (by omega); have h6 := h 6 (by omega); have h7 := h 7 (by omega); have h8 := h 8 (by omega)
        omega)
      go_wp2_with fail
      go_ret2
      exact ⟨ret_two HL.out.symm, hb⟩
set_option maxHeartbeats 400000 in
theorem rluhn_bad (s : ByteArray) (w : World) (hs : s.size ≤ maxLen) (hb : ¬ faultOf s.data.toList = 0) :
    Calls Tryd.prog 18 #[.string s] w fun e w' => e = .returned (.tuple #[.int .i64 0, .int .i64 (faultOf s.data.toList)]) ∧ w = w' := by
  have hb' : (faultOf s.data.toList != 0) = true := by simpa using hb
  go_enter Tryd.func18, Tryd.ntmps18
  go_wp2_with (go_at_call 29; refine (texts_any _ _ hs).mono ?_; rintro e w' ⟨rfl, rfl⟩)
  go_ret2
  exact ⟨rfl, rfl⟩
end Go.Proofs.YtglajdedalikdaaDoor
