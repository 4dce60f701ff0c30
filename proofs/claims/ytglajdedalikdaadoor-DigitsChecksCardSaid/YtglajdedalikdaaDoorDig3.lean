import Derived.Test.YtglajdedalikdaaDoorDig2
namespace Go.Proofs.YtglajdedalikdaaDoor
open Go.RowKit

def wtab (i : Nat) : Int := if i < 10 then i else if 2 * (i - 10) ≤ 9 then 2 * (i - 10 : Nat) else 2 * (i - 10 : Nat) - 9
def Wts (w : World) : Prop := ∀ i, i < 20 → w.cell? ⟨0, i, none⟩ = some (.int .i64 (wtab i))
/-- the digit at k -/
def dg (s : ByteArray) (k : Nat) : Nat := (s.data.toList.getD k 48).toNat - 48
/-- the weight of digit d at a position -/
def wt (pos d : Nat) : Nat := if pos % 2 = 0 then d else if 2 * d ≤ 9 then 2 * d else 2 * d - 9
def psum (N f : Nat) (s : ByteArray) : Nat → Nat
  | 0 => 0
  | k + 1 => psum N f s k + wt (N - 1 - k + f) (dg s k)
theorem wt_odd (p d : Nat) (h : p % 2 = 1) : wt p d = wt 1 d := by unfold wt; simp only [h, if_neg (show ¬ (1 = 0) by decide)]
theorem wt_even (p d : Nat) (h : p % 2 = 0) : wt p d = d := by unfold wt; rw [if_pos h]
theorem wtab_lo (d : Nat) (h : d < 10) : wtab d = (d : Int) := by unfold wtab; rw [if_pos h]
theorem wtab_hi (d : Nat) (_h : d < 10) : wtab (10 + d) = (wt 1 d : Nat) := by
  unfold wtab wt; rw [if_neg (by omega), if_neg (show ¬ (1 % 2 = 0) by decide), Nat.add_sub_cancel_left]; split <;> omega
theorem wt_le (p d : Nat) (h : d ≤ 9) : wt p d ≤ 9 := by unfold wt; split; omega; split <;> omega
theorem dig_at (s : ByteArray) (k : Nat) (h : k < s.size) (hd : s.data.toList.all isDig = true) : 48 ≤ s[k].toNat ∧ s[k].toNat ≤ 57 := by
  have h1 := List.all_eq_true.1 hd s[k] (Array.mem_toList_iff.2 (Array.getElem_mem h))
  unfold isDig at h1; simpa using h1
theorem dg_eq (s : ByteArray) (k : Nat) (h : k < s.size) : dg s k = s[k].toNat - 48 := by
  unfold dg
  rw [List.getD_eq_getElem?_getD, List.getElem?_eq_getElem (by simpa using h)]
  rfl
theorem dg_le (s : ByteArray) (k : Nat) (hd : s.data.toList.all isDig = true) : dg s k ≤ 9 := by
  by_cases h : k < s.size
  · have := dig_at s k h hd; rw [dg_eq s k h]; omega
  · unfold dg; rw [List.getD_eq_getElem?_getD, List.getElem?_eq_none (by rw [Array.length_toList]; exact Nat.le_of_not_lt h)]; decide
theorem psum_le (N f : Nat) (s : ByteArray) (hd : s.data.toList.all isDig = true) (k : Nat) : psum N f s k ≤ 9 * k := by
  induction k with
  | zero => simp [psum]
  | succ k ih => have := wt_le (N - 1 - k + f) (dg s k) (dg_le s k hd); simp only [psum]; omega

theorem fin1 {a b c : Nat} {x y : Int} (h : a = b + c) (hx : x = b + y) (hy : y = c) : Value.int .i64 x = .int .i64 (a : Int) := by rw [hx, hy, h]; norm_cast
theorem drawn_more {w w' : World} (h : ∃ n, w' = w.drewN n) (m : Nat) : ∃ n, w'.drewN m = w.drewN n := by
  obtain ⟨n, rfl⟩ := h; exact ⟨n + m, by rw [World.drewN_drewN]⟩
set_option maxHeartbeats 800000 in
theorem luhnSum_any (s : ByteArray) (f : Int) (w : World) (hs : s.size ≤ 1000) (hf : 0 ≤ f) (hf' : f ≤ 1) (hd : s.data.toList.all isDig = true) (hw : Wts w) :
    Calls Tryd.prog 30 #[.string s, .int .i64 f] w fun e w' => e = .returned (.int .i64 (psum s.size f.toNat s s.size)) ∧ ∃ n, w' = w.drewN n := by
  have HD := Lib.hid hd
  have HW := Lib.hid hw
  clear hd hw
  go_enter Tryd.func30, Tryd.ntmps30
  go_wp2
  go_loopw [5, 10] (fun t i wr => ∃ k : Nat, k ≤ s.size ∧ i = .int .i64 k ∧ t = .int .i64 (psum s.size f.toNat s k) ∧ ∃ n, wr = w.drewN n) (fun _ i _ => s.size - (intOf i).toNat)
  case atStart => exact ⟨0, Nat.zero_le _, rfl, rfl, 0, rfl⟩
  case round =>
    obtain ⟨k, hk, rfl, rfl, hn⟩ := hrel
    have HN := Lib.hid hn
    clear hn
    by_cases hlt : k < s.size
    · obtain ⟨hb1, hb2⟩ := dig_at s k hlt HD.out
      have hps := psum_le s.size f.toNat s HD.out k
      obtain ⟨d, e0, hd9⟩ : ∃ d : Nat, (s[k].toNat : Int) - 48 = d ∧ d < 10 := ⟨s[k].toNat - 48, by omega, by omega⟩
      have e0' : s[k].toNat - 48 = d := by omega
      have HS := Lib.hid (show psum s.size f.toNat s (k+1) = psum s.size f.toNat s k + wt (s.size - 1 - k + f.toNat) d by rw [← e0', ← dg_eq s k hlt]; rfl)
      clear e0'
      have hd9' : (d : Int) < 10 := by omega
      rcases (show ((s.size : Int) - 1 - k + f) % 2 = 0 ∨ ((s.size : Int) - 1 - k + f) % 2 = 1 by omega) with h | h
      · have e1 : ((s.size : Int) - 1 - k + f).tmod 2 = 0 := by rw [Int.tmod_eq_emod_of_nonneg (by omega)]; exact h
        have HT := Lib.hid (show wt (s.size - 1 - k + f.toNat) d = d from wt_even _ _ (by omega))
        have hc : wr.cell? ⟨0, d, none⟩ = some (.int .i64 d) := by
          obtain ⟨n, hn⟩ := HN.out
          rw [hn]
          exact (HW.out d (by omega)).trans (by rw [wtab_lo d hd9])
        clear h
        go_wp2
        go_quiet ((go_at_call 27; exact Calls.quiet_of_same ((value_any _ _ (by omega) (by omega)).mono fun _ _ h => ⟨h.1, h.2.symm⟩)))
        go_wp2
        go_roundw
        case rel => exact ⟨k + 1, by omega, by go_num, fin1 HS.out rfl (by rw [HT.out]), drawn_more HN.out nq⟩
        case measure => simp [intOf]; omega
      · have e1 : ((s.size : Int) - 1 - k + f).tmod 2 = 1 := by rw [Int.tmod_eq_emod_of_nonneg (by omega)]; exact h
        have hc : wr.cell? ⟨0, 10 + d, none⟩ = some (.int .i64 (wt 1 d)) := by
          obtain ⟨n, hn⟩ := HN.out
          rw [hn]
          exact (HW.out (10 + d) (by omega)).trans (by rw [wtab_hi d hd9])
        have HT := Lib.hid (show wt (s.size - 1 - k + f.toNat) d = wt 1 d from wt_odd _ _ (by omega))
        have hwl := wt_le 1 d (by omega)
        clear h
        go_wp2
        go_quiet ((go_at_call 27; exact Calls.quiet_of_same ((value_any _ _ (by omega) (by omega)).mono fun _ _ h => ⟨h.1, h.2.symm⟩)))
        go_wp2
        go_roundw
        case rel => exact ⟨k + 1, by omega, by go_num, fin1 HS.out rfl (by rw [HT.out]), drawn_more HN.out nq⟩
        case measure => simp [intOf]; omega
    · have e : k = s.size := by omega
      subst e
      go_wp2
      go_ret
      exact ⟨rfl, HN.out⟩
set_option maxHeartbeats 400000 in
theorem sum_any (s : ByteArray) (w : World) (hs : s.size ≤ 1000) (hd : s.data.toList.all isDig = true) :
    Calls Tryd.prog 31 #[.string s] w fun e w' => e = .returned (.int .i64 (psum s.size 0 s s.size)) ∧ w = w' := by
  have HD := Lib.hid hd
  clear hd
  go_enter Tryd.func31, Tryd.ntmps31
  go_wp2
  go_loop [3, 4] (fun t i => ∃ k : Nat, k ≤ s.size ∧ i = .int .i64 k ∧ t = .int .i64 (psum s.size 0 s k)) (fun _ i => s.size - (intOf i).toNat)
  case atStart => exact ⟨0, Nat.zero_le _, rfl, rfl⟩
  case round =>
    obtain ⟨k, hk, rfl, rfl⟩ := hrel
    by_cases hlt : k < s.size
    · obtain ⟨hb1, hb2⟩ := dig_at s k hlt HD.out
      have hps := psum_le s.size 0 s HD.out k
      have HS := Lib.hid (show psum s.size 0 s (k+1) = psum s.size 0 s k + wt (s.size - 1 - k) (s[k].toNat - 48) by rw [← dg_eq s k hlt]; rfl)
      go_wp2
      all_goals
        go_round
        case rel => exact ⟨k + 1, by omega, by go_num, fin1 HS.out rfl (by unfold wt; simp only [beq_iff_eq, beq_eq_false_iff_ne] at *; split <;> (try split) <;> omega)⟩
        case measure => simp [intOf]; omega
    · have e : k = s.size := by omega
      subst e
      go_wp2
      go_ret
      exact ⟨rfl, rfl⟩
end Go.Proofs.YtglajdedalikdaaDoor
