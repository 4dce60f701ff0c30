/- Card numbers and tokens, as plain functions of texts. -/
import Derived.Test.YtgpgleojkldndaaDoorDigN
import Derived.Test.YtgpgleojkldndaaDoorShIdx
import Derived.Test.YtgpgleojkldndaaDoorShRep
import Derived.Test.YtgpgleojkldndaaDoorShItoa
import Derived.Lib.ItoaLen
namespace Go.Proofs.YtgpgleojkldndaaDoor
open Go.RowKit

/-- well-shaped -/
def shp (s : ByteArray) : Bool := s.data.toList.all isDig && (decide (16 ≤ s.size) && decide (s.size ≤ 19))

/-- its parts -/
def pB (s : ByteArray) : ByteArray := if shp s then s.extract 0 6 else ⟨#[]⟩
def pM (s : ByteArray) : ByteArray := if shp s then s.extract 6 (s.size - 4) else ⟨#[]⟩
def pL (s : ByteArray) : ByteArray := if shp s then s.extract (s.size - 4) s.size else ⟨#[]⟩

theorem shp_parts {s : ByteArray} (h : shp s = true) : s.data.toList.all isDig = true ∧ 16 ≤ s.size ∧ s.size ≤ 19 := by
  unfold shp at h
  simp only [Bool.and_eq_true, decide_eq_true_eq] at h
  exact h

theorem shp_of {s : ByteArray} (h : s.data.toList.all isDig = true) (h1 : 16 ≤ s.size) (h2 : s.size ≤ 19) : shp s = true := by
  unfold shp; rw [h, decide_eq_true h1, decide_eq_true h2]; rfl

theorem pB_yes {s : ByteArray} (h : shp s = true) : pB s = s.extract 0 6 := by unfold pB; rw [if_pos h]
theorem pM_yes {s : ByteArray} (h : shp s = true) : pM s = s.extract 6 (s.size - 4) := by unfold pM; rw [if_pos h]
theorem pL_yes {s : ByteArray} (h : shp s = true) : pL s = s.extract (s.size - 4) s.size := by unfold pL; rw [if_pos h]
theorem pB_no {s : ByteArray} (h : shp s = false) : pB s = ⟨#[]⟩ := by unfold pB; rw [h]; rfl
theorem pM_no {s : ByteArray} (h : shp s = false) : pM s = ⟨#[]⟩ := by unfold pM; rw [h]; rfl
theorem pL_no {s : ByteArray} (h : shp s = false) : pL s = ⟨#[]⟩ := by unfold pL; rw [h]; rfl

theorem pB_size {s : ByteArray} (h : shp s = true) : (pB s).size = 6 := by
  obtain ⟨_, h1, h2⟩ := shp_parts h
  rw [pB_yes h, ByteArray.size_extract]; omega
theorem pM_size {s : ByteArray} (h : shp s = true) : (pM s).size = s.size - 10 := by
  obtain ⟨_, h1, h2⟩ := shp_parts h
  rw [pM_yes h, ByteArray.size_extract]; omega
theorem pL_size {s : ByteArray} (h : shp s = true) : (pL s).size = 4 := by
  obtain ⟨_, h1, h2⟩ := shp_parts h
  rw [pL_yes h, ByteArray.size_extract]; omega

theorem pB_le (s : ByteArray) : (pB s).size ≤ 6 := by
  cases h : shp s with
  | true => rw [pB_size h]; exact Nat.le_refl _
  | false => rw [pB_no h]; decide
theorem pM_le (s : ByteArray) : (pM s).size ≤ 9 := by
  cases h : shp s with
  | true => obtain ⟨_, h1, h2⟩ := shp_parts h; rw [pM_size h]; omega
  | false => rw [pM_no h]; decide
theorem pL_le (s : ByteArray) : (pL s).size ≤ 4 := by
  cases h : shp s with
  | true => rw [pL_size h]; exact Nat.le_refl _
  | false => rw [pL_no h]; decide

theorem extract_join (s : ByteArray) (a b c : Nat) (h : a ≤ b) (h' : b ≤ c) (_hc : c ≤ s.size) : s.extract a b ++ s.extract b c = s.extract a c := by
  apply ByteArray.ext
  rw [ByteArray.data_append, ByteArray.data_extract, ByteArray.data_extract, ByteArray.data_extract, Array.extract_append_extract]
  congr 1 <;> omega

theorem extract_all (s : ByteArray) : s.extract 0 s.size = s := by
  apply ByteArray.ext
  rw [ByteArray.data_extract]
  exact Array.extract_size

/-- the parts make the whole -/
theorem whole_eq {s : ByteArray} (h : shp s = true) : pB s ++ pM s ++ pL s = s := by
  obtain ⟨_, h1, h2⟩ := shp_parts h
  rw [pB_yes h, pM_yes h, pL_yes h, extract_join _ _ _ _ (by omega) (by omega) (by omega), extract_join _ _ _ _ (by omega) (by omega) (by omega), extract_all]

/-- parts, masked -/
def mk3 (a b c : ByteArray) : ByteArray := a ++ stars b.size ++ c

/-- a version's number: 0 where the text is none's -/
def verN (s : ByteArray) : Int := if Lib.hasPrefix s.data.toList [48] then 0 else dnV s

/-- the text ahead of the period, and the version behind it -/
def tkA (t : ByteArray) : ByteArray := ahd t 46
def tkN (t : ByteArray) : Int := verN (bhd t 46)

/-- is it a token? -/
def isTk (t : ByteArray) : Bool := shp (tkA t) && (decide (1 ≤ tkN t) && decide (tkN t ≤ 255))

theorem isTk_parts {t : ByteArray} (h : isTk t = true) : shp (tkA t) = true ∧ 1 ≤ tkN t ∧ tkN t ≤ 255 := by
  unfold isTk at h
  simp only [Bool.and_eq_true, decide_eq_true_eq] at h
  exact h

/-- a token of a text and a version -/
def tkS (s : ByteArray) (v : Int) : ByteArray := s ++ ⟨#[46]⟩ ++ itoaB v

/-- the masked form -/
def maskS (s : ByteArray) : ByteArray :=
  if shp s then mk3 (pB s) (pM s) (pL s) else if isTk s then tkS (mk3 (pB (tkA s)) (pM (tkA s)) (pL (tkA s))) (tkN s) else stars (min s.size 32)

/-- what Token answers -/
def tokE (s : ByteArray) (v : Int) : Int := if shp s then (if v < 1 ∨ 255 < v then 1 else 0) else 10
def tokV (s : ByteArray) (v : Int) : ByteArray := if tokE s v = 0 then tkS s v else ⟨#[]⟩

/-- what Split answers -/
def splE (t : ByteArray) : Int := if isTk t then 0 else 11
def splV (t : ByteArray) : ByteArray := if isTk t then tkA t else ⟨#[]⟩
def splN (t : ByteArray) : Int := if isTk t then tkN t else 0

/-- what Cut answers besides -/
def cutE (s : ByteArray) : Int := if shp s then 0 else 10

theorem itoaB_size (n : Int) (h0 : -9223372036854775808 ≤ n) (h1 : n ≤ 9223372036854775807) : (itoaB n).size ≤ 21 := by
  unfold itoaB
  show ((Lib.itoa n).toArray).size ≤ 21
  rw [List.size_toArray]
  exact Lib.itoa_length_le n h0 h1

theorem mk3_size (s : ByteArray) : (mk3 (pB s) (pM s) (pL s)).size ≤ 19 := by
  unfold mk3
  rw [ByteArray.size_append, ByteArray.size_append, stars_size]
  have h1 := pB_le s; have h2 := pM_le s; have h3 := pL_le s
  omega

theorem dnV_nonneg (s : ByteArray) : 0 ≤ dnV s ∧ dnV s ≤ 9223372036854775807 := by
  unfold dnV
  split
  · rename_i h
    refine ⟨by omega, ?_⟩
    unfold dnE at h
    split at h
    · exact absurd h ‹_›
    · split at h
      · omega
      · split at h
        · omega
        · omega
  · omega

theorem verN_in (s : ByteArray) : 0 ≤ verN s ∧ verN s ≤ 9223372036854775807 := by
  unfold verN
  split
  · omega
  · exact dnV_nonneg s
end Go.Proofs.YtgpgleojkldndaaDoor
