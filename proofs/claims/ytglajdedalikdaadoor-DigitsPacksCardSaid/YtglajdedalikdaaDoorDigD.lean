/- Pack. -/
import Derived.Test.YtglajdedalikdaaDoorDigC
namespace Go.Proofs.YtglajdedalikdaaDoor
open Go.RowKit

theorem packedSize_any (n : Int) (w : World) (h0 : 0 ≤ n) (h1 : n ≤ 281474976710656) :
    Calls Tryd.prog 26 #[.int .i64 n] w fun e w' => e = .returned (.int .i64 ((n + 1) / 2)) ∧ w = w' := by
  go_enter Tryd.func26, Tryd.ntmps26
  go_wp2
  go_ret
  exact ⟨rfl, rfl⟩

/-- half t of a digit text, a 0 ahead of an odd number of digits -/
def half (s : ByteArray) (t : Nat) : Nat := if s.size % 2 = 0 then dg s t else if t = 0 then 0 else dg s (t - 1)

/-- byte j behind m halves -/
def pbi (s : ByteArray) (m j : Nat) : Nat := 16 * (if 2 * j < m then half s (2 * j) else 0) + (if 2 * j + 1 < m then half s (2 * j + 1) else 0)

/-- byte j of the packed text -/
def pb (s : ByteArray) (j : Nat) : Nat := 16 * half s (2 * j) + half s (2 * j + 1)

theorem half_eq (s : ByteArray) (i d : Nat) (_hi : i < s.size) (h : dg s i = d) : half s (s.size % 2 + i) = d := by
  unfold half
  by_cases h2 : s.size % 2 = 0
  · rw [if_pos h2, h2, Nat.zero_add, h]
  · rw [if_neg h2, if_neg (by omega), show s.size % 2 + i - 1 = i by omega, h]

theorem half_zero (s : ByteArray) (h : s.size % 2 = 1) : half s 0 = 0 := by unfold half; rw [if_neg (by omega), if_pos rfl]

theorem pb_even (s : ByteArray) (m d j0 : Nat) (hm : m = 2 * j0) (h : half s m = d) (j : Nat) :
    (if j = j0 then Value.int .u8 ((16 * d : Nat) : Int) else .int .u8 (pbi s m j : Nat)) = .int .u8 (pbi s (m + 1) j : Nat) := by
  by_cases hj : j = j0
  · rw [if_pos hj]; unfold pbi; rw [if_pos (by omega), if_neg (by omega), show 2 * j = m by omega, h]; rfl
  · rw [if_neg hj]; unfold pbi
    simp only [show (2 * j < m + 1) = (2 * j < m) from propext ⟨by omega, by omega⟩, show (2 * j + 1 < m + 1) = (2 * j + 1 < m) from propext ⟨by omega, by omega⟩]

theorem pb_odd (s : ByteArray) (m d j0 : Nat) (hm : m = 2 * j0 + 1) (h : half s m = d) (j : Nat) :
    (if j = j0 then Value.int .u8 ((pbi s m j0 + d : Nat) : Int) else .int .u8 (pbi s m j : Nat)) = .int .u8 (pbi s (m + 1) j : Nat) := by
  by_cases hj : j = j0
  · rw [if_pos hj]; subst hj; unfold pbi; rw [if_pos (by omega), if_neg (by omega), if_pos (by omega), if_pos (by omega), show 2 * j + 1 = m by omega, h]; rfl
  · rw [if_neg hj]; unfold pbi
    simp only [show (2 * j < m + 1) = (2 * j < m) from propext ⟨by omega, by omega⟩, show (2 * j + 1 < m + 1) = (2 * j + 1 < m) from propext ⟨by omega, by omega⟩]

theorem pbi_tens (s : ByteArray) (m j0 : Nat) (hm : m = 2 * j0 + 1) : pbi s m j0 = 16 * half s (2 * j0) := by
  unfold pbi; rw [if_pos (by omega), if_neg (by omega)]; rfl

theorem or_nib : ∀ x < 16, ∀ d < 16, bits BinOp.or .u8 ((16 * x : Nat) : Int) ((d : Nat) : Int) = ((16 * x + d : Nat) : Int) := by decide +kernel

theorem half_le (s : ByteArray) (t : Nat) (hd : s.data.toList.all isDig = true) : half s t ≤ 9 := by
  unfold half; split; exact dg_le s _ hd; split; omega; exact dg_le s _ hd

set_option maxHeartbeats 1600000 in
theorem pack_ok (s : ByteArray) (w : World) (hd : s.data.toList.all isDig = true) (hl : s.size ≤ 999) :
    Calls Tryd.prog 11 #[.string s] w fun e w' => ∃ g, e = .returned (.tuple #[.slice (some ⟨g, 0, none⟩) ((s.size + 1) / 2) ((s.size + 1) / 2), .int .i64 0]) ∧ w.heap.size ≤ g ∧
      w'.rowIs g 5 ((s.size + 1) / 2) (fun j => .int .u8 (pb s j : Nat)) ∧ Below w.heap.size w w' := by
  have HD := Lib.hid hd
  have HF := Lib.hid (fault_ok hd (by simpa using hl))
  clear hd
  obtain ⟨m, hm⟩ : ∃ m, m = (s.size + 1) / 2 := ⟨_, rfl⟩
  obtain ⟨p, hp, hp'⟩ : ∃ p : Nat, (s.size : Int).tmod 2 = p ∧ s.size % 2 = p := ⟨s.size % 2, by rw [Int.tmod_eq_emod_of_nonneg (by omega)]; omega, rfl⟩
  have hmk := mk8 m (by omega)
  have HM := Lib.hid hm
  have HP := Lib.hid hp'
  have HI := Lib.hid (show ((s.size : Int) + 1) / 2 = (m : Nat) by omega)
  have hp2 : p ≤ 1 := by omega
  clear hm hp'
  go_enter Tryd.func11, Tryd.ntmps11
  go_wp2_with (first | (go_at_call 25; refine (fault_any _ _ (by unfold maxLen; omega)).mono ?_; rintro e w' ⟨rfl, rfl⟩; rw [HF.out]) | (go_at_call 26; refine (packedSize_any _ _ (by omega) (by omega)).mono ?_; rintro e w' ⟨rfl, rfl⟩; rw [HI.out]))
  go_loopw [23] (fun c wr => ∃ i : Nat, i ≤ s.size ∧ c = .int .i64 i ∧ wr.rowIs w.heap.size 5 m (fun j => .int .u8 (pbi s (p + i) j : Nat)) ∧ Below w.heap.size w wr) (fun c _ => s.size - (intOf c).toNat)
  case atStart =>
    exact ⟨0, Nat.zero_le _, rfl, (World.rowIs_made w (.int .u8 0) m _).congr fun j hj => by
      unfold pbi
      rw [if_neg (show ¬ 2 * j + 1 < p + 0 by omega)]
      by_cases h : 2 * j < p + 0
      · rw [if_pos h, show 2 * j = 0 by omega, half_zero s (by have := HP.out; omega)]; rfl
      · rw [if_neg h]; rfl, (Below.refl _ _).alloc (Nat.le_refl _) _⟩
  case round =>
    obtain ⟨i, hi, rfl, hrow, hb⟩ := hrel
    have HR := Lib.hid hrow
    have HB := Lib.hid hb
    clear hrow hb
    by_cases hlt : i < s.size
    · obtain ⟨hb1, hb2⟩ := dig_at s i hlt HD.out
      obtain ⟨d, e0, hd9⟩ : ∃ d : Nat, (s[i].toNat : Int) - 48 = d ∧ d < 10 := ⟨s[i].toNat - 48, by omega, by omega⟩
      have HH := Lib.hid (show half s (p + i) = d by rw [← HP.out]; exact half_eq s i d hlt (by rw [dg_eq s i hlt]; omega))
      rcases (show (∃ j0, p + i = 2 * j0) ∨ (∃ j0, p + i = 2 * j0 + 1) from (Nat.mod_two_eq_zero_or_one (p + i)).imp (fun h => ⟨(p + i) / 2, by omega⟩) (fun h => ⟨(p + i) / 2, by omega⟩)) with ⟨j0, hj⟩ | ⟨j0, hj⟩
      · have HT := Lib.hid (fun j => pb_even s (p + i) d j0 hj HH.out j)
        have e1 : (p : Int) + i = 2 * j0 := by omega
        have e2 : ((2 : Int) * j0) % 2 = 0 := by omega
        have e3 : ((2 : Int) * j0) / 2 = j0 := by omega
        have hj1 : j0 < m := by have := HM.out; have := HP.out; omega
        have hc := HR.out.cell hj1
        have hf := HR.out.frozen j0
        generalize pbi s (p + i) j0 = old at hc
        clear hj
        go_wp2_with (go_at_call 27; refine (value_any _ _ (by omega) (by omega)).mono ?_; rintro e w' ⟨rfl, rfl⟩)
        go_roundw
        case rel => exact ⟨i + 1, by omega, by go_num, (HR.out.set j0 (.int .u8 (d * 16))).congr fun j _ => by rw [← Nat.add_assoc, ← HT.out j]; norm_cast; rw [Nat.mul_comm], HB.out.setCell (Nat.le_refl _) _⟩
        case measure => simp [intOf]; omega
      · have HT := Lib.hid (fun j => pb_odd s (p + i) d j0 hj HH.out j)
        obtain ⟨q, e1, hq⟩ : ∃ q : Nat, (p : Int) + i = q ∧ q = 2 * j0 + 1 := ⟨p + i, by omega, hj⟩
        have e2 : ((q : Nat) : Int).tmod 2 = 1 := by rw [Int.tmod_eq_emod_of_nonneg (by omega)]; omega
        have e3 : ((q : Nat) : Int).tdiv 2 = j0 := by rw [Int.tdiv_eq_ediv_of_nonneg (by omega)]; omega
        have e4 : IntKind.i64.wrap (j0 : Int) = j0 := IntWalk.i64_in _ (by omega)
        have e5 : (j0 : Int) < m := by have := HM.out; have := HP.out; omega
        clear hq
        have hj1 : j0 < m := by have := HM.out; have := HP.out; omega
        have hc := HR.out.cell hj1
        have hf := HR.out.frozen j0
        have HX := Lib.hid (pbi_tens s (p + i) j0 hj)
        have HL := Lib.hid (half_le s (2 * j0) HD.out)
        generalize pbi s (p + i) j0 = old at *
        have HO := Lib.hid (show bits BinOp.or .u8 (old : Int) d = ((old + d : Nat) : Int) by rw [HX.out]; exact or_nib _ (by have := HL.out; omega) d (by omega))
        clear hj
        go_wp2_with (go_at_call 27; refine (value_any _ _ (by omega) (by omega)).mono ?_; rintro e w' ⟨rfl, rfl⟩)
        have hcall : ∀ W, Calls Tryd.prog 27 #[.int .u8 s[i].toNat] W fun e w' => e = .returned (.int .u8 d) ∧ W = w' := fun W => by
          rw [← e0]; exact value_any _ W (by omega) (by omega)
        have HC := Lib.hid hcall
        clear hcall
        go_region_with (go_at_call 27; refine (HC.out _).mono ?_; rintro e w' ⟨rfl, rfl⟩)
        all_goals
          go_wp2_with fail
          go_roundw
          case rel =>
            exact ⟨i + 1, by omega, by go_num, ((HR.out.set j0 (.int .u8 (bits BinOp.or .u8 old d))).congr fun j _ => by
              rw [← Nat.add_assoc, ← HT.out j, HO.out]).drew, (HB.out.setCell (Nat.le_refl _) _).drew⟩
          case measure => simp [intOf]; omega
    · obtain rfl : i = s.size := by omega
      have HZ := Lib.hid (show ∀ j, j < m → pbi s (p + s.size) j = pb s j from fun j hj => by
        unfold pbi pb
        have := HM.out; have := HP.out
        rw [if_pos (by omega), if_pos (by omega)])
      go_wp2_with fail
      go_ret2
      exact ⟨w.heap.size, by rw [← HM.out]; rfl, Nat.le_refl _, by rw [← HM.out]; exact HR.out.congr fun j hj => by rw [HZ.out j hj], HB.out⟩

set_option maxHeartbeats 400000 in
theorem pack_bad (s : ByteArray) (w : World) (hs : s.size ≤ maxLen) (hb : ¬ faultOf s.data.toList = 0) :
    Calls Tryd.prog 11 #[.string s] w fun e w' => e = .returned (.tuple #[.slice none 0 0, .int .i64 (faultOf s.data.toList)]) ∧ w = w' := by
  have hb' : (faultOf s.data.toList != 0) = true := by simpa using hb
  go_enter Tryd.func11, Tryd.ntmps11
  go_wp2_with (go_at_call 25; refine (fault_any _ _ hs).mono ?_; rintro e w' ⟨rfl, rfl⟩)
  go_ret2
  exact ⟨rfl, rfl⟩
end Go.Proofs.YtglajdedalikdaaDoor
