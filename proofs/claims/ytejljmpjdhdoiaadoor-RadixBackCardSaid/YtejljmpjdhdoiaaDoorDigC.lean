/- Text. -/
import Derived.Test.YtejljmpjdhdoiaaDoorBase
namespace Go.Proofs.YtejljmpjdhdoiaaDoor
open Go.RowKit

/-- digit j of n, of w digits -/
def td (n w j : Nat) : Nat := 48 + n / 10 ^ (w - 1 - j) % 10

def textE (n k : Int) : Int := if n < 0 ∨ k < 1 ∨ 19 < k then 1 else if 0 < n.toNat / 10 ^ k.toNat then 5 else 0

def textV (n k : Int) : ByteArray := if textE n k = 0 then strOf k.toNat (td n.toNat k.toNat) else ByteArray.empty

/-- byte j of the text behind i rounds -/
def tb (n k i j : Nat) : Nat := if k - i ≤ j then td n k j else 0

theorem pow_step (n i : Nat) : n / 10 ^ (i + 1) = n / 10 ^ i / 10 := by rw [Nat.pow_succ, Nat.div_div_eq_div_mul]

theorem tb_step (n k i j0 : Nat) (h : k - 1 - i = j0) (hi : i < k) (j : Nat) : (if j = j0 then Value.int .u8 ((48 + n / 10 ^ i % 10 : Nat) : Int) else .int .u8 (tb n k i j : Nat)) = .int .u8 (tb n k (i + 1) j : Nat) := by
  by_cases hj : j = j0
  · rw [if_pos hj]; unfold tb td; rw [if_pos (by omega), show k - 1 - j = i by omega]
  · rw [if_neg hj]; unfold tb
    by_cases h2 : k - i ≤ j
    · rw [if_pos h2, if_pos (by omega)]
    · rw [if_neg h2, if_neg (by omega)]

theorem textE_fit {n k : Nat} (h1 : 1 ≤ k) (h2 : k ≤ 19) (h : n / 10 ^ k = 0) : textE n k = 0 := by
  unfold textE; rw [if_neg (by omega), if_neg (by simp only [Int.toNat_natCast]; rw [h]; decide)]

theorem textE_big {n k : Nat} (h1 : 1 ≤ k) (h2 : k ≤ 19) (h : ¬ n / 10 ^ k = 0) : textE n k = 5 := by
  unfold textE; rw [if_neg (by omega), if_pos (by simp only [Int.toNat_natCast]; exact_mod_cast Nat.pos_of_ne_zero h)]

set_option maxHeartbeats 800000 in
theorem text_ok (n k : Nat) (w : World) (hn : n ≤ 9223372036854775807) (h1 : 1 ≤ k) (h2 : k ≤ 19) :
    Calls Tryd.prog 29 #[.int .i64 n, .int .i64 k] w fun e w' => e = .returned (.tuple #[.string (textV n k), .int .i64 (textE n k)]) ∧ Below w.heap.size w w' := by
  have hmk := mk8 k (by omega)
  go_enter Tryd.func29, Tryd.ntmps29
  go_wp2_with fail
  go_loopw [0, 21] (fun t c wr => ∃ i : Nat, i ≤ k ∧ c = .int .i64 i ∧ t = .int .i64 (n / 10 ^ i : Nat) ∧ wr.rowIs w.heap.size 5 k (fun j => .int .u8 (tb n k i j : Nat)) ∧ Below w.heap.size w wr) (fun _ c _ => k - (intOf c).toNat)
  case atStart => exact ⟨0, Nat.zero_le _, rfl, by simp, (World.rowIs_made w (.int .u8 0) k _).congr fun j hj => by unfold tb; rw [if_neg (by omega)]; rfl, (Below.refl _ _).alloc (Nat.le_refl _) _⟩
  case round =>
    obtain ⟨i, hi, rfl, rfl, hrow, hb⟩ := hrel
    have HS := Lib.hid (pow_step n i)
    have HM := Lib.hid (show n / 10 ^ i ≤ n from Nat.div_le_self _ _)
    have HR := Lib.hid hrow
    have HB := Lib.hid hb
    clear hrow hb
    by_cases hlt : i < k
    · obtain ⟨j0, hj0⟩ : ∃ j0, k - 1 - i = j0 := ⟨_, rfl⟩
      have HT := Lib.hid (fun j => tb_step n k i j0 hj0 hlt j)
      have hz := HM.out
      generalize n / 10 ^ i = m at *
      have e1 : (k : Int) - 1 - i = j0 := by omega
      have hj1 : j0 < k := by omega
      clear hj0
      have hc := HR.out.cell hj1
      have hf := HR.out.frozen j0
      go_wp2_with fail
      go_roundw
      case rel =>
        exact ⟨i + 1, by omega, by go_num, by rw [HS.out]; go_num, ((HR.out.set j0 (.int .u8 (48 + (m : Int) % 10))).congr fun j _ => by rw [← HT.out j]; norm_cast), HB.out.setCell (Nat.le_refl _) _⟩
      case measure => simp [intOf]; omega
    · obtain rfl : i = k := by omega
      have HZ := Lib.hid (show textV n i = if n / 10 ^ i = 0 then strOf i (td n i) else ByteArray.empty by
        unfold textV
        by_cases h : n / 10 ^ i = 0
        · rw [if_pos (textE_fit h1 h2 h), if_pos h]; rfl
        · rw [if_neg (by rw [textE_big h1 h2 h]; decide), if_neg h])
      have hcv := convRow HR.out (td n i) (Nat.le_refl _) (fun j _ => by unfold tb; rw [if_pos (by omega)])
      by_cases h0 : n / 10 ^ i = 0
      · have HE := Lib.hid (textE_fit h1 h2 h0)
        have HV := Lib.hid (HZ.out.trans (if_pos h0))
        rw [h0]
        clear h0 HZ HS HM
        go_wp2_with fail
        go_ret2
        exact ⟨ret_sv HV.out.symm HE.out.symm, HB.out⟩
      · have HE := Lib.hid (textE_big h1 h2 h0)
        have HV := Lib.hid (HZ.out.trans (if_neg h0))
        generalize n / 10 ^ i = m at *
        have hm : (0 : Int) < m := by omega
        go_wp2_with fail
        go_ret2
        exact ⟨ret_sv HV.out.symm HE.out.symm, HB.out⟩

set_option maxHeartbeats 400000 in
theorem text_bad (n k : Int) (w : World) (h : n < 0 ∨ k < 1 ∨ 19 < k) :
    Calls Tryd.prog 29 #[.int .i64 n, .int .i64 k] w fun e w' => e = .returned (.tuple #[.string (textV n k), .int .i64 (textE n k)]) ∧ Below w.heap.size w w' := by
  have HE := Lib.hid (show textE n k = 1 by unfold textE; rw [if_pos h])
  have HV := Lib.hid (show textV n k = ByteArray.empty by unfold textV; rw [HE.out]; rfl)
  rcases (show n < 0 ∨ (0 ≤ n ∧ k < 1) ∨ (0 ≤ n ∧ 1 ≤ k ∧ 19 < k) by omega) with h | ⟨h, h'⟩ | ⟨h, h', h''⟩
  all_goals
    go_enter Tryd.func29, Tryd.ntmps29
    go_wp2_with fail
    go_ret2
    exact ⟨ret_sv HV.out.symm HE.out.symm, Below.refl _ _⟩

theorem text_any (n k : Int) (w : World) (hn : n ≤ 9223372036854775807) :
    Calls Tryd.prog 29 #[.int .i64 n, .int .i64 k] w fun e w' => e = .returned (.tuple #[.string (textV n k), .int .i64 (textE n k)]) ∧ Below w.heap.size w w' := by
  by_cases h : n < 0 ∨ k < 1 ∨ 19 < k
  · exact text_bad n k w h
  · obtain ⟨n, rfl⟩ := Int.eq_ofNat_of_zero_le (show 0 ≤ n by omega)
    obtain ⟨k, rfl⟩ := Int.eq_ofNat_of_zero_le (show 0 ≤ k by omega)
    exact text_ok n k w (by omega) (by omega) (by omega)
end Go.Proofs.YtejljmpjdhdoiaaDoor
