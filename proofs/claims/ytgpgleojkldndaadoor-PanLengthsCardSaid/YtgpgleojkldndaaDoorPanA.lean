/- Package pan: cutting a text, a version's number, the forms of parts. -/
import Derived.Test.YtgpgleojkldndaaDoorPanM
import Derived.Test.YtgpgleojkldndaaDoorDigA
import Derived.Test.YtgpgleojkldndaaDoorShPre
import Derived.Test.YtgpgleojkldndaaDoorShClone
import Derived.Laws.StructEq
import Derived.Lib.QuietBelow
namespace Go.Proofs.YtgpgleojkldndaaDoor
open Go.RowKit

/-- the parts as a struct -/
def parts (a b c : ByteArray) : Value := .agg #[.string a, .string b, .string c]

/-- what cut hands back -/
def cutV (s : ByteArray) : Value := .agg #[.string (pB s), .string (pM s), .string (pL s)]

theorem luhn_all (s : ByteArray) (w : World) (hs : s.size ≤ maxLen) (hw : Wts w) :
    Calls Tryd.prog 34 #[.string s] w fun e w' => (∃ x, e = .returned (.tuple #[.int .i64 x, .int .i64 (faultOf s.data.toList)])) ∧ ∃ n, w' = w.drewN n := by
  by_cases h : faultOf s.data.toList = 0
  · obtain ⟨hd, hl⟩ := fault_zero h
    exact (luhn_ok s w hd (by rw [Array.length_toList] at hl; exact hl) hw).mono fun e w' ⟨he, hn⟩ => ⟨⟨_, by rw [h]; exact he⟩, hn⟩
  · exact (luhn_bad s w hs h).mono fun e w' ⟨he, hn⟩ => ⟨⟨_, he⟩, 0, hn.symm⟩

set_option maxHeartbeats 800000 in
theorem cut_any (s : ByteArray) (w : World) (hs : s.size ≤ maxLen) (hw : Wts w) :
    Calls Tryd.prog 20 #[.string s] w fun e w' => e = .returned (cutV s) ∧ Below w.heap.size w w' := by
  have HW := Lib.hid (hw)
  have HS := Lib.hid hs
  unfold maxLen at hs
  clear hw
  by_cases hl : s.size < 16 ∨ 19 < s.size
  · have hz : shp s = false := by
      unfold shp
      rcases hl with h | h
      · rw [decide_eq_false (show ¬ 16 ≤ s.size by omega)]; simp
      · rw [decide_eq_false (show ¬ s.size ≤ 19 by omega)]; simp
    have HV := Lib.hid (show cutV s = .agg #[.string ⟨#[]⟩, .string ⟨#[]⟩, .string ⟨#[]⟩] by unfold cutV; rw [pB_no hz, pM_no hz, pL_no hz])
    clear hz
    rcases hl with h | h
    · have h1 : decide ((s.size : Int) < 16) = true := by simp; omega
      go_enter Tryd.func20, Tryd.ntmps20
      go_wp2_with fail
      exact bodyPost_ret (v := .agg #[.string ⟨#[]⟩, .string ⟨#[]⟩, .string ⟨#[]⟩]) (by simp [results, Tryd.results20, go_sem]) rfl ⟨by rw [HV.out], (Below.refl _ _).alloc (Nat.le_refl _) _⟩
    · have h1 : decide ((s.size : Int) < 16) = false := by simp; omega
      have h2 : decide ((19 : Int) < s.size) = true := by simp; omega
      go_enter Tryd.func20, Tryd.ntmps20
      go_wp2_with fail
      exact bodyPost_ret (v := .agg #[.string ⟨#[]⟩, .string ⟨#[]⟩, .string ⟨#[]⟩]) (by simp [results, Tryd.results20, go_sem]) rfl ⟨by rw [HV.out], (Below.refl _ _).alloc (Nat.le_refl _) _⟩
  · have h1 : decide ((s.size : Int) < 16) = false := by simp; omega
    have h2 : decide ((19 : Int) < s.size) = false := by simp; omega
    obtain ⟨n, hn, hn2⟩ : ∃ n : Nat, (s.size : Int) - 4 = n ∧ n = s.size - 4 := ⟨s.size - 4, by omega, rfl⟩
    by_cases hf : faultOf s.data.toList = 0
    · have hns : n ≤ s.size := by omega
      have hn6 : 6 ≤ n := by omega
      have hd := (fault_zero hf).1
      have hz := shp_of hd (by omega) (by omega)
      have HV := Lib.hid (show cutV s = .agg #[.string (s.extract 0 6), .string (s.extract 6 n), .string (s.extract n s.size)] by unfold cutV; rw [pB_yes hz, pM_yes hz, pL_yes hz, hn2])
      have HF := Lib.hid hf
      clear hf hd hz hn2
      go_enter Tryd.func20, Tryd.ntmps20
      go_wp2_with (go_at_call 34; refine (luhn_all s _ HS.out (fun i hi => ((Below.refl w.heap.size w).alloc (Nat.le_refl _) _).cell (block_lt (HW.out i hi)) |>.trans (HW.out i hi))).mono ?_; rintro e w1 ⟨⟨x, rfl⟩, m, rfl⟩; rw [HF.out])
      go_region
      go_wp2_with fail
      exact bodyPost_ret (v := .agg #[.string (s.extract 0 6), .string (s.extract 6 n), .string (s.extract n s.size)]) (by simp [results, Tryd.results20, go_sem]) rfl ⟨by rw [HV.out], (((drawn ((Below.refl _ _).alloc (Nat.le_refl _) _) _).setCell (Nat.le_refl _) _).setCell (Nat.le_refl _) _).setCell (Nat.le_refl _) _⟩
    · have hz : shp s = false := by
        cases h : shp s with
        | false => rfl
        | true => exact absurd (fault_ok (shp_parts h).1 (by rw [Array.length_toList]; show s.size ≤ 999; omega)) hf
      have HV := Lib.hid (show cutV s = .agg #[.string ⟨#[]⟩, .string ⟨#[]⟩, .string ⟨#[]⟩] by unfold cutV; rw [pB_no hz, pM_no hz, pL_no hz])
      have hf' : (faultOf s.data.toList != 0) = true := by simpa using hf
      clear hf hz
      go_enter Tryd.func20, Tryd.ntmps20
      go_wp2_with fail
      refine (luhn_all s _ HS.out (fun i hi => ((Below.refl w.heap.size w).alloc (Nat.le_refl _) _).cell (block_lt (HW.out i hi)) |>.trans (HW.out i hi))).mono ?_
      rintro e w1 ⟨⟨x, rfl⟩, m, rfl⟩
      go_wp2_with fail
      exact bodyPost_ret (v := .agg #[.string ⟨#[]⟩, .string ⟨#[]⟩, .string ⟨#[]⟩]) (by simp [results, Tryd.results20, go_sem]) rfl ⟨by rw [HV.out], (((drawn ((Below.refl _ _).alloc (Nat.le_refl _) _) _).setCell (Nat.le_refl _) _).setCell (Nat.le_refl _) _).setCell (Nat.le_refl _) _⟩

theorem wrong_any (v : Int) (w : World) :
    Calls Tryd.prog 30 #[.int .i64 v] w fun e w' => e = .returned (.bool (decide (v < 1) || decide (255 < v))) ∧ w = w' := by
  go_enter Tryd.func30, Tryd.ntmps30
  by_cases h1 : v < 1
  · have h1' : decide (v < 1) = true := by simpa using h1
    clear h1
    go_wp2
    go_ret
    exact ⟨by rw [h1']; rfl, rfl⟩
  · have h1' : decide (v < 1) = false := by simpa using h1
    clear h1
    go_wp2
    go_ret
    exact ⟨by rw [h1']; rfl, rfl⟩

theorem number11_any (s : ByteArray) (w : World) (hs : s.size ≤ maxLen) :
    Calls Tryd.prog 42 #[.string s] w fun e w' => e = .returned (.int .i64 (verN s)) ∧ ∃ n, w' = w.drewN n := by
  cases hp : Lib.hasPrefix s.data.toList [48] with
  | true =>
    have HV := Lib.hid (show verN s = 0 by unfold verN; rw [hp]; rfl)
    have HP := Lib.hid hp
    clear hp
    go_enter Tryd.func42, Tryd.ntmps42
    go_wp2_with (go_at_call 45; refine (prefix_any s _ _).mono ?_; rintro e w' ⟨rfl, rfl⟩; rw [show ((⟨#[48]⟩ : ByteArray).data.toList) = [48] from rfl, HP.out])
    go_ret
    exact ⟨by rw [HV.out]; rfl, 0, rfl⟩
  | false =>
    have HV := Lib.hid (show verN s = dnV s by unfold verN; rw [hp]; rfl)
    have HP := Lib.hid hp
    clear hp
    go_enter Tryd.func42, Tryd.ntmps42
    go_wp2_with (first
      | (go_at_call 45; refine (prefix_any s _ _).mono ?_; rintro e w' ⟨rfl, rfl⟩; rw [show ((⟨#[48]⟩ : ByteArray).data.toList) = [48] from rfl, HP.out])
      | (go_at_call 52; refine (number_any s _ hs).mono ?_; rintro e w' ⟨rfl, n, rfl⟩))
    go_ret
    exact ⟨by rw [HV.out]; rfl, n, rfl⟩

theorem join11_any (s : ByteArray) (v : Int) (w : World) (hs : s.size ≤ 1000) (h0 : -9223372036854775808 ≤ v) (h1 : v ≤ 9223372036854775807) (hp : P10 w) :
    Calls Tryd.prog 27 #[.string s, .int .i64 v] w fun e w' => e = .returned (.string (tkS s v)) ∧ Below w.heap.size w w' := by
  have HT := Lib.hid (show tkS s v = s ++ ⟨#[46]⟩ ++ itoaB v from rfl)
  have hz := itoaB_size v h0 h1
  have hz1 : (s ++ (⟨#[46]⟩ : ByteArray)).size ≤ 1001 := by rw [ByteArray.size_append]; show s.size + 1 ≤ 1001; omega
  have hz2 : (⟨#[46]⟩ : ByteArray).size ≤ 1 := Nat.le_refl _
  go_enter Tryd.func27, Tryd.ntmps27
  go_wp2_with fail
  refine (itoa_any v _ h0 h1 hp).mono ?_
  rintro e w' ⟨rfl, hb⟩
  generalize itoaB v = t at *
  go_wp2_with fail
  go_ret
  exact ⟨by rw [HT.out]; rfl, hb⟩

theorem eq_parts (a b c : ByteArray) (w : World) (h : 0 < a.size) :
    (binOp .eql 36 (.agg #[.string a, .string b, .string c]) (.agg #[.string ⟨#[]⟩, .string ⟨#[]⟩, .string ⟨#[]⟩])).run Tryd.prog w = .ok (.bool false) w := by
  have e1 : (a.toList == []) = false := by
    have := toList_of_size h
    cases ht : a.toList with
    | nil => rw [ht] at this; exact absurd this (by decide)
    | cons x l => rfl
  simp [go_sem, e1]

/-- the zero parts -/
theorem eq_none (w : World) :
    (binOp .eql 36 (.agg #[.string ⟨#[]⟩, .string ⟨#[]⟩, .string ⟨#[]⟩]) (.agg #[.string ⟨#[]⟩, .string ⟨#[]⟩, .string ⟨#[]⟩])).run Tryd.prog w = .ok (.bool true) w := by
  simp [go_sem]

theorem neq_parts (a b c : ByteArray) (w : World) (h : 0 < a.size) :
    (binOp .neq 36 (.agg #[.string a, .string b, .string c]) (.agg #[.string ⟨#[]⟩, .string ⟨#[]⟩, .string ⟨#[]⟩])).run Tryd.prog w = .ok (.bool true) w := by
  have e1 : (a.toList == []) = false := by
    have := toList_of_size h
    cases ht : a.toList with
    | nil => rw [ht] at this; exact absurd this (by decide)
    | cons x l => rfl
  simp [go_sem, e1]

theorem neq_none (w : World) :
    (binOp .neq 36 (.agg #[.string ⟨#[]⟩, .string ⟨#[]⟩, .string ⟨#[]⟩]) (.agg #[.string ⟨#[]⟩, .string ⟨#[]⟩, .string ⟨#[]⟩])).run Tryd.prog w = .ok (.bool false) w := by
  simp [go_sem]
end Go.Proofs.YtgpgleojkldndaaDoor
